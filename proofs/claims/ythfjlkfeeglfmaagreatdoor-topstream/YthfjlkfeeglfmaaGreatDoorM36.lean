import Derived.Deep.RegionHeld3
import Derived.Deep.RegionWith
import Derived.WalkMore
import Derived.Laws.OwnMore
import Derived.Laws.AppendOwnNone
import Derived.Test.YthfjlkfeeglfmaaGreatDoorM08
set_option linter.all false
set_option maxHeartbeats 1000000
namespace Go.Proofs.YthfjlkfeeglfmaaGreatDoor
open Go.Proofs.Tryz
open Go.RowKit
open Lw (Dc bE rt bQ cq gK kq)
section
variable {W W':World}{g T cap e sz:Nat}{v vn vw v':Value}{l:List Dc}{o:Oper}{xs:List Value}{rest:List Oper}{dn m:Bool}{i:Int}
inductive Pz|S|B0|B1|H|I (n:Nat)|J|X
deriving DecidableEq
def dS:Dc:=⟨2,bE,0,0,false⟩
def dB (n:Int):Dc:=⟨3,bE,n,0,false⟩
def dH:Dc:=⟨4,bE,0,0,false⟩
def dE:Dc:=⟨5,bE,0,0,false⟩
def dI (n:Int) (e:Bool):Dc:=⟨6,bE,0,n,e⟩
def dX:Dc:=⟨7,bE,0,0,false⟩
def dT (t:ByteArray):Dc:=⟨1,t,0,0,false⟩
def Pz.d:Pz->Dc
 |.S=>dS
 |.B0=>dB 0
 |.B1=>dB 1
 |.H=>dH
 |.I n=>dI n false
 |.J=>dI 2 true
 |.X=>dX
def Pz.n:Pz->Nat
 |.I _=>1
 |.J=>1
 |_=>0
structure Nd where
 k:Int
 b:Nat
 s:Bool
deriving DecidableEq
structure Sy where
 ns:List Nd
 ws:List Dc
 mr:Option Nat
 wr:Bool
 en:Bool
 pt:Bool
def qB:Sy:=⟨[],[],none,false,false,false⟩
def gX (p:Pz):List Nd->List Nd
 |[]=>[]
 |n :: r=>(if p=.X then { n with b:=n.b-1 }else { n with b:=n.b+p.n }) :: r
def jQ (p:Pz) (ns:List Nd):List Dc:=if p=.X/\((ns.head?.map (·.b)).getD 0)=0 then[]else[p.d]
def Sy.aw (s:Sy) (p:Pz):Sy:={ s with ns:=gX p s.ns,ws:=s.ws++jQ p s.ns }
def Sy.aws (s:Sy) (l:List Pz):Sy:=l.foldl Sy.aw s
inductive Fx|nothing|blank|break1|hard|fend|endBlank|endHard|in1|in2|in2Break0|in2Break1|even2Hard|blankIn3|blankIn4
deriving DecidableEq
def Fx.pz:Fx->List Pz
 |.nothing=>[]
 |.blank=>[.S]
 |.break1=>[.B1]
 |.hard=>[.H]
 |.fend=>[.X]
 |.endBlank=>[.X,.S]
 |.endHard=>[.X,.H]
 |.in1=>[.I 1]
 |.in2=>[.I 2]
 |.in2Break0=>[.I 2,.B0]
 |.in2Break1=>[.I 2,.B1]
 |.even2Hard=>[.J,.H]
 |.blankIn3=>[.S,.I 3]
 |.blankIn4=>[.S,.I 4]
structure Rw where
 ns:List Int
 t:List UInt8
 a:Fx
 b:Fx
deriving DecidableEq
def tab:List Rw:=[
 ⟨[1,0,0,0,0,0],[112,114,111,103,114,97,109],.nothing,.blank⟩,
 ⟨[1,12,10,0,0,0],[59],.nothing,.hard⟩,
 ⟨[2,20,0,0,0,0],[98,101,103,105,110],.nothing,.even2Hard⟩,
 ⟨[2,20,10,15,16,17],[101,110,100],.endHard,.nothing⟩,
 ⟨[3,0,0,0,0,0],[118,97,114],.nothing,.blankIn4⟩,
 ⟨[3,7,11,29,31,0],[44],.nothing,.break1⟩,
 ⟨[3,7,11,0,0,0],[58],.fend,.blank⟩,
 ⟨[3,0,0,0,0,0],[59],.nothing,.hard⟩,
 ⟨[4,0,0,0,0,0],[99,111,110,115,116],.nothing,.blank⟩,
 ⟨[5,0,0,0,0,0],[112,114,111,99],.nothing,.blank⟩,
 ⟨[4,0,0,0,0,0],[61],.blank,.in2Break1⟩,
 ⟨[4,0,0,0,0,0],[59],.fend,.hard⟩,
 ⟨[5,0,0,0,0,0],[58],.nothing,.blank⟩,
 ⟨[33,0,0,0,0,0],[59],.nothing,.even2Hard⟩,
 ⟨[5,0,0,0,0,0],[59],.fend,.hard⟩,
 ⟨[6,0,0,0,0,0],[40],.nothing,.in2Break0⟩,
 ⟨[6,0,0,0,0,0],[59],.nothing,.break1⟩,
 ⟨[6,27,31,0,0,0],[41],.fend,.nothing⟩,
 ⟨[9,0,0,0,0,0],[97,114,114,97,121],.nothing,.blank⟩,
 ⟨[9,0,0,0,0,0],[111,102],.blank,.blank⟩,
 ⟨[10,0,0,0,0,0],[114,101,99,111,114,100],.nothing,.even2Hard⟩,
 ⟨[14,0,0,0,0,0],[58,61],.blank,.break1⟩,
 ⟨[15,0,0,0,0,0],[105,102],.nothing,.blankIn3⟩,
 ⟨[15,0,0,0,0,0],[101,108,105,102],.endHard,.blankIn3⟩,
 ⟨[16,0,0,0,0,0],[119,104,105,108,101],.nothing,.blankIn3⟩,
 ⟨[15,0,0,0,0,0],[116,104,101,110],.endBlank,.even2Hard⟩,
 ⟨[15,0,0,0,0,0],[101,108,115,101],.endHard,.even2Hard⟩,
 ⟨[16,0,0,0,0,0],[100,111],.endBlank,.even2Hard⟩,
 ⟨[17,0,0,0,0,0],[102,111,114],.nothing,.blank⟩,
 ⟨[17,0,0,0,0,0],[58,61],.blank,.blank⟩,
 ⟨[17,0,0,0,0,0],[116,111],.blank,.blank⟩,
 ⟨[17,0,0,0,0,0],[100,111],.blank,.even2Hard⟩,
 ⟨[18,0,0,0,0,0],[114,101,112,101,97,116],.nothing,.even2Hard⟩,
 ⟨[18,0,0,0,0,0],[117,110,116,105,108],.endHard,.blankIn3⟩,
 ⟨[21,22,23,24,0,0],[],.blank,.break1⟩,
 ⟨[26,0,0,0,0,0],[110,111,116],.nothing,.blank⟩,
 ⟨[27,0,0,0,0,0],[40],.nothing,.in1⟩,
 ⟨[29,0,0,0,0,0],[91],.nothing,.in1⟩,
 ⟨[29,0,0,0,0,0],[93],.fend,.nothing⟩,
 ⟨[31,0,0,0,0,0],[40],.nothing,.in2⟩]
def Nd.is (n:Nd) (k:Int):Bool:=if k=33 then decide (n.k=5)&&decide (n.b=0)else decide (n.k=k)
def Rw.fits (r:Rw) (n:Nd) (t:ByteArray):Bool:=(decide (r.t=[])||decide (r.t=t.data.toList))&&r.ns.any n.is
def M5:Rw:=⟨[0,0,0,0,0,0],[],.nothing,.nothing⟩
def bi (n:Nd) (t:Tv):Rw:=if t.k=2\/t.k=6 then(tab.find? (λr=>r.fits n t.t)).getD M5 else M5
def kE (k:Int):Bool:=decide (k=3\/k=4\/k=5\/k=11\/k=13\/k=14\/k=15\/k=16\/k=17\/k=18\/k=19\/k=20)
def Sy.exprIn (s:Sy):Sy:=match s.ns with
 |[]=>s
 |n :: r=>{ (if n.k=19 then s.aws [.S,.I 3]else if n.k=31/\n.s=false then s.aws [.B0]else s)with
   ns:={ k:=n.k,b:=(if n.k=19 then n.b+1 else n.b),s:=true } :: r }
def Sy.mark (s:Sy) (k:Int):Sy:=if kE k=true/\s.mr=none then { s with mr:=some s.ws.length }else s
def uk (k:Int):List Pz:=if k=21\/k=22\/k=23\/k=24 then[.I 0]else if k=14\/k=7\/k=11 then[.I 2]else[]
def Sy.opens (s:Sy) (k:Int):Sy:=
 let s1:=(if k=21 then s.exprIn else s).mark k
 { s1 with ns:=⟨k,0,false⟩ :: s1.ns }.aws (uk k)
def Sy.leaves (s:Sy):Sy:=match s.ns with
 |[]=>s
 |n :: r=>{ s with ns:=r,ws:=s.ws++List.replicate n.b dX++(if n.k=1 then[dH]else[]) }
def br (d:Dc):Bool:=decide (d.k=6)
def fi (d:Dc):Bool:=decide (d.k=4)
def eh (d:Dc):Bool:=decide (d.k=2)||(decide (d.k=4)||decide (d=dB 1))
def Sy.emp (s:Sy) (f:Int):Sy:=match s.mr with
 |none=>s
 |some m=>if f<2\/s.wr=false\/(s.ws.take m).any br=true then s else { s with ws:=s.ws.take m++dE :: s.ws.drop m }
def Sy.endl (s:Sy):Sy:=if s.en=true/\s.ws.any fi=false then { s with ws:=dH :: s.ws }else s
def Sy.part (s:Sy):Sy:=if s.pt=true/\s.ws.any eh=false then { s with ws:=s.ws++[dS] }else s
def Sy.ready (s:Sy) (a:Fx) (f:Int):Sy:=(((s.aws a.pz).emp f).endl).part
def Sy.after (s:Sy) (b:Fx):Sy:=Sy.aws ⟨s.ns,[],none,true,false,false⟩ b.pz
def Sy.leaf (s:Sy) (t:Tv):Sy × List Dc:=match s.ns with
 |[]=>(s,[])
 |n :: _=>((s.ready (bi n t).a t.f).after (bi n t).b,(s.ready (bi n t).a t.f).ws++[dT t.t])
def Sy.note (s:Sy) (t:Tv):Sy × List Dc:=
 let bg:=s.ws.takeWhile br
 let rs:=s.ws.dropWhile br
 if t.f=0/\s.wr=true then(⟨s.ns,rs,none,true,s.en||decide (t.k=7),s.pt||decide (t.k=8)⟩,bg++[dS,dT t.t])
 else(⟨s.ns,rs,none,true,true,s.pt⟩,bg++dH :: ((if 2<=t.f/\s.wr=true/\bg=[]then[dE]else[])++[dT t.t]))
def Sy.may (s:Sy) (e:Ev):Bool:=
 if e.k=1 then decide (1<=e.n)&&decide (e.n<=32)
 else if e.k=3 then(match s.ns with|[]=>false|n :: _=>decide (n.k=e.n))
 else if e.k=2 then !s.ns.isEmpty&&gK e.d.t
 else if e.k=4 then !s.ns.isEmpty&&(gK e.d.t&&decide (e.d.k=7\/e.d.k=8))
 else false
def Sy.step (s:Sy) (e:Ev):Sy × List Dc:=
 if e.k=1 then(s.opens e.n,[])else if e.k=3 then(s.leaves,[])else if e.k=2 then s.leaf e.d else s.note e.d
def gq (s:Sy) (e:Ev):Option (Sy × List Dc):=if s.may e=true then some (s.step e)else none
def kn (s:Sy):Option (List Dc):=if s.ns=[]then some s.endl.ws else none
def eX:Sy->List Ev->Option (List Dc)
 |s,[]=>kn s
 |s,e :: r=>match gq s e with
  |none=>none
  |some (s',l)=>(eX s' r).map (l++·)
def Iu (s:Sy) (p:Pz):(s.aw p).ws=s.ws++jQ p s.ns:=rfl
def eO (s:Sy) (p:Pz) (l:List Pz):s.aws (p :: l)=(s.aw p).aws l:=rfl
open Lw (Dc bE rt bQ cq gK kq bR aS bY)
def fV (a b:List Dc):bR (a++b)=bR a++bR b:=aT Dc.cs a b
abbrev Rd (W:World) (v:Value) (l:List Dc):Prop:=W.ownsRow 0 37 5 v l.length (bR l)
def lL (W:World):Rd W (.slice none 0 0) []:=SU W 0 37 5
def Ac {S:Nat->Prop}(h:Rd W v l) (G:Kp S W W') (u:∀k,v.ownBlock=some k->¬S k):Rd W' v l:=G.row h u
def eI (h:Rd W v l) (u:Below W.heap.size W W'):Rd W' v l:=aU h u
def bv (h:Rd W v l):∃p cap,v=.slice p l.length cap/\l.length<=cap/\cap<=maxLen:=aG h
def gQ {n:Nat}(h:W.ownsRow 0 e sz v n xs):∀k,v.ownBlock=some k->k<W.heap.size:=by
 intro k u
 rcases h.2 with⟨rfl,_⟩|⟨b,cap,H,rfl,_,G,_⟩
 ·cases u
 ·simp only[Value.ownBlock,St]at u;subst u;exact ai G
def ku {n I G n':Nat}{H:List Value}(h:W.ownsRow 0 e sz v n xs) (M:W.ownsRow 0 I G v' n' H) (Q:e≠I):∀k,v.ownBlock=some k->v'.ownBlock≠some k:=by
 intro k S u
 rcases M.2 with⟨rfl,_⟩|⟨b,cap,Y,rfl,_,O,_⟩
 ·cases u
 ·simp only[Value.ownBlock,St]at u;subst u;exact aF h O (λJ=>Q J.symm) S
def Tryz.info37:(Tryz.prog.info? 37).map (λi=>(i.zero,i.size,i.bytes))=some (some (.agg #[.int .u8 0,.string ⟨#[]⟩,Tu 0,Tu 0,.bool false]),5,48):=by kernel_rfl
def Ex {M:Array Oper}{a:Act}{K:Act->World->Prop}{Q:Exit->Act->World->Prop}{E:Prop}(G:o.guard=none) (s x:Operand)
  (ho:o.op=.call { callee:=.builtin .append,args:=#[s,x],argTypes:=#[23,23] }) (v:Value) (l:List Dc) (d:Dc) (hs:a.eval s=v) (hr:Rd W v l)
  (g c:Nat) (hx:a.eval x=.slice (some (Tw g 0)) 1 c) (hg:W.heap[g]?=some (.cells #[.int .u8 d.k,.string d.t,Tu d.b,Tu d.i,.bool d.e] 37 (0,0))) (hl:l.length<=1000000000)
  (h:∀q cap w',Rd w' (.slice (some (Tw q 0)) (l.length+1) cap) (l++[d])->W.grownBy w' v.ownBlock->(v.ownBlock=some q\/q=W.heap.size)->K (a.put o.dst (.slice (some (Tw q 0)) (l.length+1) cap)) w') :
  if Region.wanted o (yielded M a.tmps)=true then Oper.wp Tryz.prog o a W K Q else E:=by
 obtain⟨i0,hi,H,I,J⟩:=Tf Tryz.info37;refine Uw W G s x 23 ho 0 37 i0 _ 5 48 underlying23 hi H I J rfl (by decide) v _ _ hs hr (Tw g 0) 1 c (bR [d]) hx (by rw[aS];rfl) ?_ (bY [d]) (by omega) (by unfold maxLen;omega) (by omega) (RU _) _ rfl ?_
 ·intro j u O;refine Ta hg j u ?_;have e:bR [d]=[.int .u8 d.k,.string d.t,Tu d.b,Tu d.i,.bool d.e]:=by simp[bR,ap,Dc.cs]
  rw[e]at O
  simpa using O
 ·intro q cap w' S Y Z _;refine h q cap w' ?_ Y Z;unfold Rd;rw[IO,fV];exact S
def rE {I:Array Oper}{a:Act}{Q:Exit->Act->World->Prop}(J:o.guard=none) (s x:Operand)
  (ho:o.op=.call { callee:=.builtin .append,args:=#[s,x],argTypes:=#[23,23] }) (v:Value) (l G:List Dc) (hs:a.eval s=v) (hr:Rd W v l)
  (g c:Nat) (hx:a.eval x=.slice (some (Tw g 0)) G.length c) (hg:W.heap[g]?=some (.cells (bR G).toArray 37 (0,0))) (hl:l.length+G.length<=2000000000)
  (h:∀v' w',Rd w' v' (l++G)->W.grownBy w' v.ownBlock->Nb W v v'->wpList Tryz.prog I Q rest (a.put o.dst v') w'):wpList Tryz.prog I Q (o :: rest) a W:=by
 obtain⟨i0,hi,M,O,S⟩:=Tf Tryz.info37;refine Th (P:=Tryz.prog) (w:=W) J s x 23 ho 0 37 i0 _ 5 48 underlying23 hi M O S rfl (by decide) v _ _ hs hr (Tw g 0) G.length c (bR G) hx (by rw[aS]) ?_ (bY G) (by unfold maxLen;omega) (by omega) (RU _) ?_
 ·intro j u hu;refine Ta hg j u ?_
  simpa using hu
 ·intro v' w' Y Z _ H;refine h v' w' ?_ Z ?_
  ·unfold Rd;rw[IO,fV];exact Y
  ·rcases H with H|H
   ·exact .inl H
   ·exact .inr ⟨_,H,ge _⟩
def Iz {J:Array Oper}{a:Act}{Q:Exit->Act->World->Prop}(H:o.guard=none) (s x:Operand)
  (ho:o.op=.call { callee:=.builtin .append,args:=#[s,x],argTypes:=#[23,23] }) (v O:Value) (l u:List Dc) (hs:a.eval s=v) (M:Rd W v l)
  (hx:a.eval x=O) (I:Rd W O u) (hl:l.length+u.length<=1000000000000)
  (h:∀v' w',Rd w' v' (l++u)->Kp (λk=>v.ownBlock=some k) W w'->Nb W v v'->wpList Tryz.prog J Q rest (a.put o.dst v') w'):wpList Tryz.prog J Q (o :: rest) a W:=by
 have hc:=λg (hg:O.ownBlock=some g)=>Ut I hg
 obtain⟨i0,hi,S,Y,Z⟩:=Tf Tryz.info37
 rcases I.2 with⟨rfl,h0⟩|⟨g,cap,aa,rfl,_⟩
 ·obtain rfl:u=[]:=R6 h0;refine wpList_append_own_none (P:=Tryz.prog) (w:=W) H s x 23 ho 0 37 i0 5 underlying23 hi v _ _ hs M hx ?_;exact h v W (by rw[Sg];exact M) (Kp.refl _ _) (.inl rfl)
 ·refine Th (P:=Tryz.prog) (w:=W) H s x 23 ho 0 37 i0 _ 5 48 underlying23 hi S Y Z rfl (by decide) v _ _ hs M (Tw g 0) u.length cap (bR u) hx (aS u) (hc g rfl) (bY _) (by unfold maxLen;omega) (by omega) (RU _) ?_;intro v' w' h1 h2 _ G;refine h v' w' ?_ ((Kp.of_grown h2).sub (λk e=>e.symm)) ?_
  ·unfold Rd;rw[IO,fV];exact h1
  ·rcases G with G|G
   ·exact .inl G
   ·exact .inr ⟨_,G,ge _⟩
def Nd.cs (n:Nd):List Value:=[.int .u8 n.k,Tu n.b,.bool n.s]
def Nd.cs_len (n:Nd):n.cs.length=3:=rfl
def Nd.cs_one (n:Nd):∀u∈n.cs,u.oneCell'=true:=by
 intro u G;simp only[Nd.cs,Sm,Uu,W4]at G
 rcases G with rfl|rfl|rfl<;>rfl
def um (l:List Nd):List Value:=ap Nd.cs l
def nH (l:List Nd):(um l).length=l.length*3:=bD Nd.cs 3 Nd.cs_len l
def KB (l:List Nd):∀u∈um l,u.oneCell'=true:=by
 intro u G;obtain⟨d,_,h⟩:=UR.1 G;exact d.cs_one u h
def nI (a b:List Nd):um (a++b)=um a++um b:=aT Nd.cs a b
abbrev Rn (T:Nat) (W:World) (v:Value) (l:List Nd):Prop:=W.ownsRow 0 T 3 v l.length (um l.reverse)
def oZ (r:List Nd) (n:Nd) (j:Nat) (v:Value) (h:n.cs[j]?=some v):(um (n :: r).reverse)[r.length*3+j]?=some v:=by
 rw[Ts];exact aP Nd.cs 3 Nd.cs_len _ r.length j n v (by rw[UJ (by simp)];simp) h
def Kz (r:List Nd) (n m:Nd) (j:Nat) (v:Value) (H:j<3) (h:n.cs.set j v=m.cs):(um (n :: r).reverse).set (r.length*3+j) v=um (m :: r).reverse:=by
 rw[Ts,Ts,nI,nI];have hl:(um r.reverse).length=r.length*3:=by rw[nH,TC]
 rw[List.set_append_right _ _ (by omega),hl,U9];have u:um [n]=n.cs:=by simp[um,ap]
 have G:um [m]=m.cs:=by simp[um,ap]
 rw[u,G,h]
def np {n:Nd}{r:List Nd}(h:Rn T W v (n :: r)):∃b cap,v=.slice (some (Tw b 0)) (r.length+1) cap/\cap<=maxLen/\r.length+1<=cap:=by
 rcases h.2 with⟨_,u⟩|⟨b,cap,J,G,_,_,H,I,_⟩
 ·simp at u
 ·exact⟨b,cap,G,I,H⟩
def kv {b:Nat}{n:Nd}{r:List Nd}(h:Rn T W (.slice (some (Tw b 0)) (r.length+1) cap) (n :: r)) :
  W.cell? ⟨b,r.length*3,none⟩=some (.int .u8 n.k)/\W.cell? ⟨b,r.length*3+1,none⟩=some (Tu n.b)/\W.cell? ⟨b,r.length*3+2,none⟩=some (.bool n.s):=by
 have hc:∀(k:Nat) (u:Value),(um (n :: r).reverse)[k]?=some u->W.cell? (Tw b k)=some u:=λk u G=>by
  have:=Ut h (g:=b) rfl k u G;rw[S8,R3]at this;exact this
 exact⟨hc _ _ (oZ r n 0 _ rfl),hc _ _ (oZ r n 1 _ rfl),hc _ _ (oZ r n 2 _ rfl)⟩
def Nh {b:Nat}{n m:Nd}{r:List Nd}(h:Rn T W (.slice (some (Tw b 0)) (r.length+1) cap) (n :: r)) (j:Nat) (u:Value) (G:j<3) (H:n.cs.set j u=m.cs) :
  Rn T (W.setCell ⟨b,r.length*3+j,none⟩ u) (.slice (some (Tw b 0)) (r.length+1) cap) (m :: r):=by
 have:=(World.ownsRow.stored h (r.length*3+j) u).1;rw[Kz r n m j u G H]at this;exact this
def Ni {b:Nat}{n:Nd}{r:List Nd}(h:Rn T W (.slice (some (Tw b 0)) (r.length+1) cap) (n :: r)):Rn T W (.slice (some (Tw b 0)) r.length cap) r:=by
 refine⟨by rw[nH,TC],?_⟩
 rcases h.2 with⟨G,_⟩|⟨g,cap',u,G,I,J,M,O,Q,H⟩
 ·cases G
 ·cases G;refine .inr ⟨_,_,u,rfl,I,J,by simp at M;omega,O,Q,?_⟩;have e:(n :: r).length*3=r.length*3+3:=by simp;omega
  rw[e]at H;have:u.toList.take (r.length*3)=(u.toList.take (r.length*3+3)).take (r.length*3):=by rw[Vj];congr 1;omega
  rw[this,H,Ts,nI,VH (by rw[nH,TC])]
abbrev bP (g:Nat):Value:=.pointer (some ⟨g,0,none⟩)
def SB (W:World) (g:Nat) (dn:Bool) (vn vw:Value) (m:Bool) (i:Int) (wr en pt:Bool):Prop:=W.heap[g]?=some (.cells #[.bool dn,vn,vw,.bool m,Tu i,.bool wr,.bool en,.bool pt] 168 (0,0))
def SB.cells {W:World}{g:Nat}{dn:Bool}{vn vw:Value}{m:Bool}{i:Int}{wr en u:Bool}(h:SB W g dn vn vw m i wr en u) :
  W.cell? (Tw g 0)=some (.bool dn)/\W.cell? (Tw g 1)=some vn/\W.cell? (Tw g 2)=some vw/\W.cell? (Tw g 3)=some (.bool m)/\W.cell? (Tw g 4)=some (Tu i)/\W.cell? (Tw g 5)=some (.bool wr)/\W.cell? (Tw g 6)=some (.bool en)/\W.cell? (Tw g 7)=some (.bool u):=
 ⟨aa h rfl,aa h rfl,aa h rfl,aa h rfl,aa h rfl,aa h rfl,aa h rfl,aa h rfl⟩
def SB.frozen {W:World}{g:Nat}{dn:Bool}{vn vw:Value}{m:Bool}{i:Int}{wr en u:Bool}(h:SB W g dn vn vw m i wr en u) (j:Nat):W.frozen? (Tw g j)=false:=aj h
def SB.kp {S:Nat->Prop}{W W':World}{g:Nat}{dn:Bool}{vn vw:Value}{m:Bool}{i:Int}{wr en u:Bool}(h:SB W g dn vn vw m i wr en u) (H:Kp S W W') (G:¬S g):SB W' g dn vn vw m i wr en u:=H.blk h G
def SB.below {wr en u:Bool}(h:SB W g dn vn vw m i wr en u) (G:Below W.heap.size W W'):SB W' g dn vn vw m i wr en u:=af h G
def SB.lt {wr en u:Bool}(h:SB W g dn vn vw m i wr en u):g<W.heap.size:=ai h
abbrev tN:Nat:=238
structure SV (W:World) (g:Nat) (st:Sy) (vn vw:Value):Prop where
 sb:SB W g false vn vw st.mr.isSome (st.mr.getD 0:Nat) st.wr st.en st.pt
 rn:Rn tN W vn st.ns
 rd:Rd W vw st.ws
structure SS (S:Nat->Prop) (W:World) (g:Nat) (st:Sy):Prop where
 ex:∃vn vw,SV W g st vn vw/\(∀k,vn.ownBlock=some k->S k)/\(∀k,vw.ownBlock=some k->S k)
 sg:S g
 lt:∀k,S k->k<W.heap.size
def Mv (S:Nat->Prop) (g:Nat) (W W':World) (st:Sy):Prop:=(∃S',SS S' W' g st/\∀k,S' k->S k\/W.heap.size<=k)/\Kp S W W'/\W'.cell? ⟨g,1,none⟩=W.cell? ⟨g,1,none⟩
def SV.below {st:Sy}(h:SV W g st vn vw) (u:Below W.heap.size W W'):SV W' g st vn vw:=⟨h.sb.below u,aU h.rn u,eI h.rd u⟩
def SV.kp {S:Nat->Prop}{W W':World}{g:Nat}{st:Sy}{vn vw:Value}(h:SV W g st vn vw) (u:Kp S W W') (G:¬S g) (H:∀k,vn.ownBlock=some k->¬S k) (I:∀k,vw.ownBlock=some k->¬S k):SV W' g st vn vw:=
 ⟨h.sb.kp u G,u.row h.rn H,Ac h.rd u I⟩
def SS.below {S:Nat->Prop}{st:Sy}(h:SS S W g st) (u:Below W.heap.size W W'):SS S W' g st:=by
 obtain⟨vn,vw,G,H⟩:=h.ex;exact⟨⟨vn,vw,G.below u,H⟩,h.sg,λk I=>R4 (h.lt k I) u.size⟩
def SS.kp {S T:Nat->Prop}{W W':World}{g:Nat}{st:Sy}(h:SS S W g st) (I:Kp T W W') (u:∀k,S k->¬T k):SS S W' g st:=by
 obtain⟨vn,vw,J,G,H⟩:=h.ex;exact⟨⟨vn,vw,J.kp I (u _ h.sg) (λk e=>u k (G k e)) (λk e=>u k (H k e)),G,H⟩,h.sg,λk M=>R4 (h.lt k M) I.size⟩
def Mv.mk' {S:Nat->Prop}{W W':World}{g:Nat}{st:Sy}{vn vw:Value}(u:SV W' g st vn vw) (J:S g) (G:∀k,vn.ownBlock=some k->S k\/W.heap.size<=k) (H:∀k,vw.ownBlock=some k->S k\/W.heap.size<=k) (I:Kp S W W') (hc:W.cell? (Tw g 1)=some vn):Mv S g W W' st:=
 ⟨⟨λk=>(S k\/W.heap.size<=k)/\k<W'.heap.size,⟨⟨vn,vw,u,λk e=>⟨G k e,gQ u.rn k e⟩,λk e=>⟨H k e,gQ u.rd k e⟩⟩,⟨.inl J,u.sb.lt⟩,λ_ h=>h.2⟩,λ_ h=>h.1⟩,I,u.sb.cells.2.1.trans hc.symm⟩
def Mv.refl {S:Nat->Prop}{W:World}{g:Nat}{st:Sy}(h:SS S W g st):Mv S g W W st:=⟨⟨S,h,λ_ h=>.inl h⟩,Kp.refl _ _,rfl⟩
def Mv.quiet {S:Nat->Prop}{st:Sy}(h:SS S W g st) (u:Se W W'):Mv S g W W' st:=⟨⟨S,h.below u,λ_ h=>.inl h⟩,Kp.of_below u,u.cell (h.lt g h.sg)⟩
structure WP (W W':World) (g:Nat) (st:Sy) (vn vw:Value) (l:List Dc):Prop where
 ex:∃vw',SV W' g { st with ws:=l } vn vw'/\Nb W vw vw'
 kp:Kp (λk=>k=g\/vw.ownBlock=some k) W W'
def WP.mv {S:Nat->Prop}{st:Sy}(h:WP W W' g st vn vw l) (M:SV W g st vn vw) (H:S g) (I:∀k,vn.ownBlock=some k->S k) (G:∀k,vw.ownBlock=some k->S k):Mv S g W W' { st with ws:=l }:=by
 obtain⟨O,a,b⟩:=h.ex;refine Mv.mk' a H (λk e=>.inl (I k e)) (λk e=>?_) (h.kp.sub ?_) M.sb.cells.2.1
 ·rcases b with b|⟨q,J,u⟩
  ·exact .inl (G k (by rw[<-b];exact e))
  ·rw[J]at e;cases e;exact .inr u
 ·rintro k (e|e)
  ·rw[e];exact H
  ·exact G k e
def SV.ws {W1 G:World}{st:Sy}(h:SV W g st vn vw) (M:Below W.heap.size W W1) (O:Kp (λk=>vw.ownBlock=some k) W1 G) {l:List Dc}(Z:Rd G v' l) (Q:Nb W1 vw v') :
  (G.cell? (Tw g 2)=some vw/\G.frozen? (Tw g 2)=false)/\WP W (G.setCell ⟨g,2,none⟩ v') g st vn vw l:=by
 have u:=h.below M;have S:¬vw.ownBlock=some g:=aF u.rd u.sb (by decide);have J:=u.sb.kp O S;have n3:=O.row u.rn (λk H I=>ku u.rn u.rd (by decide) k H I);have hk:Kp (λk=>k=g\/vw.ownBlock=some k) W (G.setCell ⟨g,2,none⟩ v'):=((Kp.of_below M).step O (λk _ e=>.inr e)).step (Kp.set _ _ _ _) (λk _ e=>.inl e);refine⟨⟨aa J rfl,J.frozen 2⟩,⟨v',⟨ag J 2 _,(Kp.set _ _ _ _).row n3 (λk H I=>aF n3 J (by decide) (by rw[H,I])),(Kp.set _ _ _ _).row Z (λk H I=>aF Z J (by decide) (by rw[H,I]))⟩,?_⟩,hk⟩
 rcases Q with Q|⟨q,hq,Y⟩
 ·exact .inl Q
 ·exact .inr ⟨q,hq,PI M.size Y⟩
def ol {st:Sy}(h:SV W g st vn vw) (d:Dc) (hl:st.ws.length<=1000000000) :
  Sa 210 #[bP g,.agg #[.int .u8 d.k,.string d.t,Tu d.b,Tu d.i,.bool d.e]] W λr w'=>Uk r (.tuple #[])/\WP W w' g st vn vw (st.ws++[d]):=by
 obtain⟨L,hL⟩:=ea st.ws;have Y:=h.rd;rw[hL]at Y hl ⊢;obtain⟨p,cap,rfl,_⟩:=bv Y;have HW:=aW λV (u:Below W.heap.size W V)=>eI Y u
 have HT:Hid (∀W1 G q I,Below W.heap.size W W1->Rd G (.slice (some (Tw q 0)) (L.length+1) I) (L++[d])->W1.grownBy G (Value.slice p L.length cap).ownBlock->((Value.slice p L.length cap).ownBlock=some q\/q=W1.heap.size)->(G.cell? (Tw g 2)=some (.slice p L.length cap)/\G.frozen? (Tw g 2)=false)/\WP W (G.setCell ⟨g,2,none⟩ (.slice (some (Tw q 0)) (L.length+1) I)) g st vn (.slice p L.length cap) (L++[d])):=
  λW1 G q I u h1 h2 S=>h.ws u ((Kp.of_grown h2).sub (λk e=>e.symm)) h1 (by rcases S with S|S;exact .inl S.symm;exact .inr ⟨q,rfl,by omega⟩)
 obtain⟨c0,c1,c2,c3,c4,c5,c6,c7⟩:=h.sb.cells;have Z:=h.sb.lt;clear h Y hL;obtain⟨⟨k0,t,b0,i0,e0⟩,hd⟩:∃x,d=x:=⟨_,rfl⟩;subst hd;dsimp only;go_enter func210,ntmps210;(go_wp2_with fail);obtain⟨W1,Q⟩:=ea (W.alloc (.cells #[.int .u8 k0,.string t,Tu b0,Tu i0,.bool e0] 37));have u:Below W.heap.size W W1:=by rw[<-Q];exact(gt _ _).alloc (ge _) _
 have H:W1.heap[W.heap.size]?=some (.cells #[.int .u8 k0,.string t,Tu b0,Tu i0,.bool e0] 37):=by rw[<-Q];exact ak _ _
 rw[Q];clear Q;have m0:W1.cell? ⟨W.heap.size,0,none⟩=_:=aa H rfl;have m1:W1.cell? ⟨W.heap.size,1,none⟩=_:=aa H rfl;have m2:W1.cell? ⟨W.heap.size,2,none⟩=_:=aa H rfl;have m3:W1.cell? ⟨W.heap.size,3,none⟩=_:=aa H rfl;have m4:W1.cell? ⟨W.heap.size,4,none⟩=_:=aa H rfl;have d4:W1.cell? (Tw g 2)=some (.slice p L.length cap):=(u.cell Z).trans c2;have HB:Hid (∀o,Below W.heap.size W (W1.drew.alloc o)):=λo=>(u.drew).alloc u.size _
 have ab:g<W1.heap.size:=R4 Z u.size;clear u H c0 c1 c2 c3 c4 c5 c6 c7 Z
 go_region_law (refine Ex (by rfl) _ _ (by rfl) (.slice p L.length cap) L ⟨k0,t,b0,i0,e0⟩ (by rfl) (HW.out _ (HB.out _)) W1.heap.size 1 (by rfl) (ak W1.drew _) hl ?_;intro q I G O J M;obtain⟨⟨x1,x2⟩,x3⟩:=HT.out _ G q I (HB.out _) O J M;have HX:=aW x3;clear x3 O J M)
 all_goals(
  (go_wp2_with fail);go_end0;exact⟨rfl,HX.out⟩)
def fu {b n:Nat}(c1:W.cell? (Tw g 1)=some (.slice (some (Tw b 0)) (n+1) cap)) (G:n<=1000000000) :
  Sa 142 #[bP g] W λr w'=>Uk r (.pointer (some ⟨b,n*3,none⟩))/\Below W.heap.size W w':=by
 have H:IntKind.i64.wrap (n:Int)=n:=by rw[Sn];omega
 have I:(0:Int)<=n:=by omega
 have J:(n:Int)<(n:Int)+1:=by omega
 have u:Hid (Se W W.drew):=(gt _ _).drew;go_enter func142,ntmps142;(go_wp2_with fail)
 go_region_law (fail)
 all_goals(
  (go_wp2_with fail);go_ret;exact⟨rfl,u.out⟩)
def SV.nd {W:World}{g:Nat}{st:Sy}{vw:Value}{b cap:Nat}{n m:Nd}{r:List Nd}(e:st.ns=n :: r) (h:SV W g st (.slice (some (Tw b 0)) (r.length+1) cap) vw) (j:Nat) (u:Value) (J:j<3) (M:n.cs.set j u=m.cs) :
  SV (W.setCell ⟨b,r.length*3+j,none⟩ u) g { st with ns:=m :: r } (.slice (some (Tw b 0)) (r.length+1) cap) vw:=by
 have O:Rn tN W (.slice (some (Tw b 0)) (r.length+1) cap) (n :: r):=by rw[<-e];exact h.rn
 have H:¬g=b:=λG=>aF h.rn h.sb (by decide) (by rw[G];rfl)
 refine⟨h.sb.kp (Kp.set W b _ u) H,Nh O j u J M,(Kp.set W b _ u).row h.rd (λk I G=>ku h.rd h.rn (by decide) k I (by rw[G];rfl))⟩
def eo {S:Nat->Prop}{st:Sy}(h:SS S W g st) (p:Pz) {i:Int}{e:Bool}(J:p.d=dI i e/\p.n=1) (M:st.ns≠[]) (hl:st.ws.length<=1000000000) (hn:st.ns.length<=1000000000) (hb:∀n∈st.ns,n.b<=1000000000) :
  Sa 147 #[bP g,Tu i,.bool e] W λr w'=>Uk r (.tuple #[])/\Mv S g W w' (st.aw p):=by
 obtain⟨vn,vw,Y,s1,s2⟩:=h.ex
 obtain⟨n,r,en⟩:∃n r,st.ns=n :: r:=by
  cases hc:st.ns with
  |nil=>exact absurd hc M
  |cons n r=>exact⟨n,r,rfl⟩
 have I:=Y.rn;rw[en]at I;obtain⟨b,cap,rfl,ad,ae⟩:=np I;have hX:p≠.X:=λe=>by rw[e]at J;cases J.2
 have eN:gX p st.ns=⟨n.k,n.b+1,n.s⟩ :: r:=by rw[en];simp only[gX];rw[Eq hX,J.2]
 have eW:jQ p st.ns=[dI i e]:=by unfold jQ;rw[Eq (λh=>hX h.1),J.1]
 have HW:=aW (ol Y (dI i e) hl);have HI:Hid (∀V,V.cell? (Tw g 1)=some (.slice (some (Tw b 0)) (r.length+1) cap)->Sa 142 #[bP g] V λr' w'=>r'=.returned (.pointer (some ⟨b,r.length*3,none⟩))/\Se V w'):=λV hV=>fu hV (by rw[en]at hn;simp at hn;omega)
 have aa:n.b<=1000000000:=hb n (by rw[en];exact RZ);have q2:IntKind.i64.wrap ((n.b:Int)+1)=n.b+1:=by rw[Sn];omega
 have O:=h.sg
 have HE:Hid (∀H w2,WP W H g st (.slice (some (Tw b 0)) (r.length+1) cap) vw (st.ws++[dI i e])->Se H w2->(w2.cell? ⟨b,r.length*3+1,none⟩=some (Tu n.b)/\w2.frozen? ⟨b,r.length*3+1,none⟩=false)/\Mv S g W (w2.setCell ⟨b,r.length*3+1,none⟩ (Tu ((n.b:Int)+1))) (st.aw p)):=λH w2 u G=>by
  obtain⟨ac,Z,Q⟩:=u.ex;have a3:=Z.below G;have a4:Rn tN w2 (.slice (some (Tw b 0)) (r.length+1) cap) (n :: r):=by have:=a3.rn;rw[show({ st with ws:=st.ws++[dI i e] }:Sy).ns=n :: r from en]at this;exact this
  refine⟨⟨(kv a4).2.1,Vc a4 _⟩,?_⟩;have a5:=SV.nd (n:=n) (m:=⟨n.k,n.b+1,n.s⟩) (show({ st with ws:=st.ws++[dI i e] }:Sy).ns=n :: r from en) a3 1 (Tu ((n.b:Int)+1)) (by omega) rfl;have e9:({ ({ st with ws:=st.ws++[dI i e] }:Sy)with ns:=⟨n.k,n.b+1,n.s⟩ :: r }:Sy)=st.aw p:=by unfold Sy.aw;rw[eN,eW]
  rw[e9]at a5;have hk:Kp S W (w2.setCell ⟨b,r.length*3+1,none⟩ (Tu ((n.b:Int)+1))):=(((u.kp.sub (S:=S) (by rintro k (e|e);rw[e];exact O;exact s2 k e)).step (Kp.of_below (S:=λ_=>False) G) (λ_ _ h=>h.elim)).step (Kp.set _ _ _ _) (λk _ e=>by rw[e];exact s1 b rfl));refine Mv.mk' a5 O (λk e=>.inl (s1 k e)) (λk e=>?_) hk Y.sb.cells.2.1
  rcases Q with Q|⟨q,hq,ab⟩
  ·exact .inl (s2 k (by rw[<-Q];exact e))
  ·rw[hq]at e;cases e;exact .inr ab
 have HC:Hid (∀H,WP W H g st (.slice (some (Tw b 0)) (r.length+1) cap) vw (st.ws++[dI i e])->H.cell? (Tw g 1)=some (.slice (some (Tw b 0)) (r.length+1) cap)):=λH u=>by
  obtain⟨ac,Z,Q⟩:=u.ex;exact Z.sb.cells.2.1
 clear Y h I s1 s2 eN eW M hl hn hb J hX aa en;go_enter func147,ntmps147
 go_wp2_with(first|(go_at_call 210;refine HW.out.mono ?_;rintro r1 w1⟨rfl,u⟩;have HP:=show Hid (WP W w1 g st (.slice (some (Tw b 0)) (r.length+1) cap) vw (st.ws++[dI i e]))from u;clear u)|(go_at_call 142;refine(HI.out _ (HC.out _ HP.out)).mono ?_;rintro r2 w2⟨rfl,G⟩;obtain⟨⟨x1,x2⟩,x3⟩:=HE.out _ _ HP.out G;have HX:=aW x3;clear x3 G))
 go_end0;exact⟨rfl,HX.out⟩
end
open Lw (Dc bE rt bQ cq gK kq bR aS bY)
variable {st:Sy}{W w:World}{g n:Nat}{l:List Dc}{ao:Option Addr}{α:Type}{vn vw:Value}
def Bz (n:Nat) (st:Sy):Prop:=st.ws.length<=n/\st.ns.length<=n/\∀x∈st.ns,x.b<=n
def Bz.mono {m:Nat}(h:Bz n st) (G:n<=m):Bz m st:=⟨by have:=h.1;omega,by have:=h.2.1;omega,λx u=>by have:=h.2.2 x u;omega⟩
def oa (p:Pz) (l:List Nd):(gX p l).length=l.length:=by cases l<;>rfl
def fW (p:Pz) (l:List Nd):(jQ p l).length<=1:=by unfold jQ;split<;>simp
def Bz.aw (h:Bz n st) (p:Pz):Bz (n+1) (st.aw p):=by
 obtain⟨I,J,G⟩:=h;refine⟨?_,?_,?_⟩
 ·show(st.ws++jQ p st.ns).length<=_;have:=fW p st.ns;rw[IO];omega
 ·show(gX p st.ns).length<=_;rw[oa];omega
 ·intro x H;have u:x∈gX p st.ns:=H;cases hc:st.ns with
  |nil=>rw[hc]at u;simp[gX]at u
  |cons m r=>
   rw[hc]at u G;simp only[gX,Sm]at u;have M:=G m RZ;have O:p.n<=1:=by cases p<;>simp[Pz.n]
   rcases u with rfl|u
   ·split
    ·show m.b-1<=_;omega
    ·show m.b+p.n<=_;omega
   ·have:=G x (R1 _ u);omega
def mO (h:st.ns≠[]) (p:Pz):(st.aw p).ns≠[]:=by
 intro e;have:(gX p st.ns).length=0:=by rw[show gX p st.ns=[]from e];rfl
 rw[oa]at this;exact h (R6 this)
def Mv.seq {S:Nat->Prop}{W1:World}(h:Mv S g W W1 st):∃G,SS G W1 g st/\∀H u,Mv G g W1 H u->Mv S g W H u:=by
 obtain⟨⟨G,Q,M⟩,J,hc⟩:=h;refine⟨G,Q,?_⟩;rintro H u⟨⟨S2,t1,t2⟩,hk2,hc2⟩;refine⟨⟨S2,t1,λk I=>?_⟩,J.step hk2 (λk Y O=>?_),hc2.trans hc⟩
 ·rcases t2 k I with a|a
  ·exact M k a
  ·exact .inr (PI J.size a)
 ·rcases M k O with a|a
  ·exact a
  ·omega
def nX {S:Nat->Prop}(h:SS S W g st) (M:st.ns≠[]) (hz:Bz 1000000000 st) :
  Sa 148 #[bP g] W λr w'=>Uk r (.tuple #[])/\Mv S g W w' (st.aw .X):=by
 obtain⟨vn,vw,O,s1,s2⟩:=h.ex
 obtain⟨n,r,en⟩:∃n r,st.ns=n :: r:=by
  cases hc:st.ns with
  |nil=>exact absurd hc M
  |cons n r=>exact⟨n,r,rfl⟩
 have G:=O.rn;rw[en]at G;obtain⟨b,cap,rfl,ae,af⟩:=np G;have H:=hz.2.1;rw[en]at H;have HI:=aW (fu O.sb.cells.2.1 (by simp at H;omega));have aa:n.b<=1000000000:=hz.2.2 n (by rw[en];exact RZ);have eN:gX .X st.ns=⟨n.k,n.b-1,n.s⟩ :: r:=by rw[en];rfl
 have ac:=h.sg
 have HV:Hid (∀V,Se W V->SV V g st (.slice (some (Tw b 0)) (r.length+1) cap) vw/\V.cell? ⟨b,r.length*3+1,none⟩=some (Tu n.b)):=λV J=>by
  have Q:=O.below J;refine⟨Q,?_⟩;have Y:=Q.rn;rw[en]at Y;exact(kv Y).2.1
 by_cases I:n.b=0
 ·have Z:jQ .X st.ns=[]:=by unfold jQ;rw[en];simp[I]
  have HX:Hid (∀V,Se W V->Mv S g W V (st.aw .X)):=λV J=>by
   have e9:st.aw .X=st:=by
    unfold Sy.aw;rw[eN,Z,Sg,I];have:(⟨n.k,0-1,n.s⟩:Nd)=n:=by cases n;simp at I;subst I;rfl
    rw[this,<-en]
   rw[e9];exact Mv.quiet h J
  rw[I]at HV;clear O G h s1 s2 eN Z hz H aa en M I;go_enter func148,ntmps148
  go_wp2_with(go_at_call 142;refine HI.out.mono ?_;rintro r2 w2⟨rfl,u⟩;have x1:=(HV.out _ u).2;have HM:=show Hid (Mv S g W w2 (st.aw .X))from HX.out _ u;clear u)
  go_end0;exact⟨rfl,HM.out⟩
 ·have Z:jQ .X st.ns=[dX]:=by unfold jQ;rw[en];simp[I,Pz.d]
  have q0:decide ((0:Int)<(n.b:Int))=true:=by simp;omega
  have q1:(0:Int)<(n.b:Int):=by omega
  have q2:IntKind.i64.wrap ((n.b:Int)-1)=((n.b-1:Nat):Int):=by rw[Sn];omega
  have HW:=aW λV (J:Se W V)=>ol (HV.out V J).1 dX hz.1
  have HE:Hid (∀V w2,Se W V->WP V w2 g st (.slice (some (Tw b 0)) (r.length+1) cap) vw (st.ws++[dX])->(w2.cell? ⟨b,r.length*3+1,none⟩=some (Tu n.b)/\w2.frozen? ⟨b,r.length*3+1,none⟩=false)/\Mv S g W (w2.setCell ⟨b,r.length*3+1,none⟩ (Tu ((n.b-1:Nat):Int))) (st.aw .X)):=λV w2 J ab=>by
   obtain⟨ag,Q,a2⟩:=ab.ex;have Y:Rn tN w2 (.slice (some (Tw b 0)) (r.length+1) cap) (n :: r):=by have:=Q.rn;rw[show({ st with ws:=st.ws++[dX] }:Sy).ns=n :: r from en]at this;exact this
   refine⟨⟨(kv Y).2.1,Vc Y _⟩,?_⟩;have a5:=SV.nd (n:=n) (m:=⟨n.k,n.b-1,n.s⟩) (show({ st with ws:=st.ws++[dX] }:Sy).ns=n :: r from en) Q 1 (Tu ((n.b-1:Nat):Int)) (by omega) rfl;have e9:({ ({ st with ws:=st.ws++[dX] }:Sy)with ns:=⟨n.k,n.b-1,n.s⟩ :: r }:Sy)=st.aw .X:=by unfold Sy.aw;rw[eN,Z]
   rw[e9]at a5;have hk:Kp S W (w2.setCell ⟨b,r.length*3+1,none⟩ (Tu ((n.b-1:Nat):Int))):=(((Kp.of_below J).step (ab.kp.sub (S:=S) (by rintro k (e|e);rw[e];exact ac;exact s2 k e)) (λ_ _ h=>h)).step (Kp.set _ _ _ _) (λk _ e=>by rw[e];exact s1 b rfl));refine Mv.mk' a5 ac (λk e=>.inl (s1 k e)) (λk e=>?_) hk O.sb.cells.2.1
   rcases a2 with a2|⟨q,hq,ad⟩
   ·exact .inl (s2 k (by rw[<-a2];exact e))
   ·rw[hq]at e;cases e;exact .inr (PI J.size ad)
  clear O G h s1 s2 eN Z hz H aa en M I;go_enter func148,ntmps148
  go_wp2_with(first|(go_at_call 142;refine HI.out.mono ?_;rintro r2 w2⟨rfl,u⟩;have x1:=(HV.out _ u).2;have HB:=show Hid (Se W w2)from u;clear u)|(go_at_call 210;refine(HW.out _ HB.out).mono ?_;rintro r3 w3⟨rfl,hp3⟩;obtain⟨⟨y1,y2⟩,y3⟩:=HE.out _ _ HB.out hp3;have HX:=aW y3;clear y3 hp3))
  go_end0;exact⟨rfl,HX.out⟩
def mu {S:Nat->Prop}(h:SS S W g st) (p:Pz) (u:p.n=0/\p≠.X) (J:Bz 1000000000 st) (Q:st.ns≠[]\/True) :
  Sa 210 #[bP g,.agg #[.int .u8 p.d.k,.string p.d.t,Tu p.d.b,Tu p.d.i,.bool p.d.e]] W λr w'=>Uk r (.tuple #[])/\Mv S g W w' (st.aw p):=by
 obtain⟨vn,vw,G,M,O⟩:=h.ex;refine(ol G p.d J.1).mono ?_;rintro r w'⟨rfl,hp1⟩;refine⟨rfl,?_⟩;have:=hp1.mv G h.sg M O
 have e:({ st with ws:=st.ws++[p.d] }:Sy)=st.aw p:=by
  have H:gX p st.ns=st.ns:=by
   cases st.ns with
   |nil=>rfl
   |cons n r=>simp only[gX];rw[Eq u.2,u.1];rfl
  have I:jQ p st.ns=[p.d]:=by unfold jQ;rw[Eq (λh=>u.2 h.1)]
  unfold Sy.aw;rw[H,I]
 rw[e]at this;exact this
def GI {S:Nat->Prop}(h:SS S W g st) (H:st.ns≠[]) (J:Bz 999999990 st) :
  Sa 154 #[bP g] W λr w'=>Uk r (.tuple #[])/\Mv S g W w' (st.aws Fx.blank.pz):=by
 have M:=aW λS V (Z:SS S V g st)=>mu Z .S ⟨rfl,by decide⟩ (J.mono (by omega)) (.inr trivial)
 have O:Hid (st.aws Fx.blank.pz=(st.aw .S)):=rfl;have Q:=aW h;clear h J H;go_enter func154,ntmps154
 go_wp2_with(first|(go_at_call 210;refine(M.out _ _ Q.out).mono ?_;rintro r0 w0⟨rfl,G⟩;obtain⟨S0,t0,u0⟩:=Mv.seq G;have T0:=show Hid (SS S0 w0 g (st.aw .S))from t0;have U0:=show Hid (∀I u,Mv S0 g w0 I u->Mv S g W I u)from u0;have Y:=show Hid (Mv S g W w0 (st.aw .S))from G;clear t0 u0 G))
 go_end0;rw[O.out];exact⟨rfl,Y.out⟩
def js {S:Nat->Prop}(h:SS S W g st) (u:st.ns≠[]) (G:Bz 999999999 st) :
  Sa 154 #[bP g] W λr w'=>Uk r (.tuple #[])/\Mv S g W w' (st.aw .S):=by
 have I:=aW λS V (O:SS S V g st)=>mu O .S ⟨rfl,by decide⟩ (G.mono (by omega)) (.inr trivial)
 have J:=aW h;clear h G u;go_enter func154,ntmps154
 go_wp2_with(go_at_call 210;refine(I.out _ _ J.out).mono ?_;rintro Q w0⟨rfl,H⟩;have M:=show Hid (Mv S g W w0 (st.aw .S))from H;clear H)
 go_end0;exact⟨rfl,M.out⟩
def Db {S:Nat->Prop}(h:SS S W g st) (H:st.ns≠[]) (J:Bz 999999990 st) :
  Sa 239 #[bP g] W λr w'=>Uk r (.tuple #[])/\Mv S g W w' (st.aws Fx.break1.pz):=by
 have M:=aW λS V (Z:SS S V g st)=>mu Z .B1 ⟨rfl,by decide⟩ (J.mono (by omega)) (.inr trivial)
 have O:Hid (st.aws Fx.break1.pz=(st.aw .B1)):=rfl;have Q:=aW h;clear h J H;go_enter func239,ntmps239
 go_wp2_with(first|(go_at_call 210;refine(M.out _ _ Q.out).mono ?_;rintro r0 w0⟨rfl,G⟩;obtain⟨S0,t0,u0⟩:=Mv.seq G;have T0:=show Hid (SS S0 w0 g (st.aw .B1))from t0;have U0:=show Hid (∀I u,Mv S0 g w0 I u->Mv S g W I u)from u0;have Y:=show Hid (Mv S g W w0 (st.aw .B1))from G;clear t0 u0 G))
 go_end0;rw[O.out];exact⟨rfl,Y.out⟩
def yI {S:Nat->Prop}(h:SS S W g st) (u:st.ns≠[]) (G:Bz 999999999 st) :
  Sa 239 #[bP g] W λr w'=>Uk r (.tuple #[])/\Mv S g W w' (st.aw .B1):=by
 have I:=aW λS V (O:SS S V g st)=>mu O .B1 ⟨rfl,by decide⟩ (G.mono (by omega)) (.inr trivial)
 have J:=aW h;clear h G u;go_enter func239,ntmps239
 go_wp2_with(go_at_call 210;refine(I.out _ _ J.out).mono ?_;rintro Q w0⟨rfl,H⟩;have M:=show Hid (Mv S g W w0 (st.aw .B1))from H;clear H)
 go_end0;exact⟨rfl,M.out⟩
def KQ {S:Nat->Prop}(h:SS S W g st) (H:st.ns≠[]) (J:Bz 999999990 st) :
  Sa 149 #[bP g] W λr w'=>Uk r (.tuple #[])/\Mv S g W w' (st.aws Fx.hard.pz):=by
 have M:=aW λS V (Z:SS S V g st)=>mu Z .H ⟨rfl,by decide⟩ (J.mono (by omega)) (.inr trivial)
 have O:Hid (st.aws Fx.hard.pz=(st.aw .H)):=rfl;have Q:=aW h;clear h J H;go_enter func149,ntmps149
 go_wp2_with(first|(go_at_call 210;refine(M.out _ _ Q.out).mono ?_;rintro r0 w0⟨rfl,G⟩;obtain⟨S0,t0,u0⟩:=Mv.seq G;have T0:=show Hid (SS S0 w0 g (st.aw .H))from t0;have U0:=show Hid (∀I u,Mv S0 g w0 I u->Mv S g W I u)from u0;have Y:=show Hid (Mv S g W w0 (st.aw .H))from G;clear t0 u0 G))
 go_end0;rw[O.out];exact⟨rfl,Y.out⟩
def po {S:Nat->Prop}(h:SS S W g st) (u:st.ns≠[]) (G:Bz 999999999 st) :
  Sa 149 #[bP g] W λr w'=>Uk r (.tuple #[])/\Mv S g W w' (st.aw .H):=by
 have I:=aW λS V (O:SS S V g st)=>mu O .H ⟨rfl,by decide⟩ (G.mono (by omega)) (.inr trivial)
 have J:=aW h;clear h G u;go_enter func149,ntmps149
 go_wp2_with(go_at_call 210;refine(I.out _ _ J.out).mono ?_;rintro Q w0⟨rfl,H⟩;have M:=show Hid (Mv S g W w0 (st.aw .H))from H;clear H)
 go_end0;exact⟨rfl,M.out⟩
def KR {S:Nat->Prop}(h:SS S W g st) (u:st.ns≠[]) (J:Bz 999999990 st) :
  Sa 240 #[bP g] W λr w'=>Uk r (.tuple #[])/\Mv S g W w' (st.aws Fx.fend.pz):=by
 have M:=aW λS V (Z:SS S V g st)=>nX Z u (J.mono (by omega))
 have O:Hid (st.aws Fx.fend.pz=(st.aw .X)):=rfl;have Q:=aW h;clear h J u;go_enter func240,ntmps240
 go_wp2_with(first|(go_at_call 148;refine(M.out _ _ Q.out).mono ?_;rintro r0 w0⟨rfl,H⟩;obtain⟨S0,t0,u0⟩:=Mv.seq H;have T0:=show Hid (SS S0 w0 g (st.aw .X))from t0;have U0:=show Hid (∀I G,Mv S0 g w0 I G->Mv S g W I G)from u0;have Y:=show Hid (Mv S g W w0 (st.aw .X))from H;clear t0 u0 H))
 go_end0;rw[O.out];exact⟨rfl,Y.out⟩
def N1 {S:Nat->Prop}(h:SS S W g st) (u:st.ns≠[]) (H:Bz 999999990 st) :
  Sa 244 #[bP g] W λr w'=>Uk r (.tuple #[])/\Mv S g W w' (st.aws Fx.in1.pz):=by
 have M:=aW λS V (Z:SS S V g st)=>eo Z (.I 1) ⟨rfl,rfl⟩ u (by have:=(H).1;omega) (by have:=(H).2.1;omega) (λn hn=>by have:=(H).2.2 n hn;omega)
 have O:Hid (st.aws Fx.in1.pz=(st.aw (.I 1))):=rfl;have Q:=aW h;clear h H u;go_enter func244,ntmps244
 go_wp2_with(first|(go_at_call 147;refine(M.out _ _ Q.out).mono ?_;rintro r0 w0⟨rfl,I⟩;obtain⟨S0,t0,u0⟩:=Mv.seq I;have T0:=show Hid (SS S0 w0 g (st.aw (.I 1)))from t0;have U0:=show Hid (∀J G,Mv S0 g w0 J G->Mv S g W J G)from u0;have Y:=show Hid (Mv S g W w0 (st.aw (.I 1)))from I;clear t0 u0 I))
 go_end0;rw[O.out];exact⟨rfl,Y.out⟩
def N0 {S:Nat->Prop}(h:SS S W g st) (u:st.ns≠[]) (H:Bz 999999990 st) :
  Sa 245 #[bP g] W λr w'=>Uk r (.tuple #[])/\Mv S g W w' (st.aws Fx.in2.pz):=by
 have M:=aW λS V (Z:SS S V g st)=>eo Z (.I 2) ⟨rfl,rfl⟩ u (by have:=(H).1;omega) (by have:=(H).2.1;omega) (λn hn=>by have:=(H).2.2 n hn;omega)
 have O:Hid (st.aws Fx.in2.pz=(st.aw (.I 2))):=rfl;have Q:=aW h;clear h H u;go_enter func245,ntmps245
 go_wp2_with(first|(go_at_call 147;refine(M.out _ _ Q.out).mono ?_;rintro r0 w0⟨rfl,I⟩;obtain⟨S0,t0,u0⟩:=Mv.seq I;have T0:=show Hid (SS S0 w0 g (st.aw (.I 2)))from t0;have U0:=show Hid (∀J G,Mv S0 g w0 J G->Mv S g W J G)from u0;have Y:=show Hid (Mv S g W w0 (st.aw (.I 2)))from I;clear t0 u0 I))
 go_end0;rw[O.out];exact⟨rfl,Y.out⟩
def AS {S:Nat->Prop}(h:SS S W g st) (u:st.ns≠[]) (G:Bz 999999999 st) :
  Sa 245 #[bP g] W λr w'=>Uk r (.tuple #[])/\Mv S g W w' (st.aw (.I 2)):=by
 have I:=aW λS V (O:SS S V g st)=>eo O (.I 2) ⟨rfl,rfl⟩ u (by have:=G.1;omega) (by have:=G.2.1;omega) (λn Q=>by have:=G.2.2 n Q;omega)
 have J:=aW h;clear h G u;go_enter func245,ntmps245
 go_wp2_with(go_at_call 147;refine(I.out _ _ J.out).mono ?_;rintro Y w0⟨rfl,H⟩;have M:=show Hid (Mv S g W w0 (st.aw (.I 2)))from H;clear H)
 go_end0;exact⟨rfl,M.out⟩
def wF {S:Nat->Prop}(h:SS S W g st) (u:st.ns≠[]) (I:Bz 999999990 st) :
  Sa 243 #[bP g] W λr w'=>Uk r (.tuple #[])/\Mv S g W w' (st.aws Fx.endBlank.pz):=by
 have O:=aW λS V (H:SS S V g st)=>nX H u (I.mono (by omega))
 have Q:=aW λS V (H:SS S V g (st.aw .X))=>js H (mO u .X) ((I.aw .X).mono (by omega))
 have Y:Hid (st.aws Fx.endBlank.pz=((st.aw .X).aw (.S))):=rfl;have Z:=aW h;clear h I u;go_enter func243,ntmps243
 go_wp2_with(first|(go_at_call 154;refine(Q.out _ _ T0.out).mono ?_;rintro r1 w1⟨rfl,M⟩;have M1:=show Hid (Mv S0 g w0 w1 ((st.aw .X).aw (.S)))from M;clear M)|(go_at_call 148;refine(O.out _ _ Z.out).mono ?_;rintro r0 w0⟨rfl,m0⟩;obtain⟨S0,t0,u0⟩:=Mv.seq m0;have T0:=show Hid (SS S0 w0 g (st.aw .X))from t0;have U0:=show Hid (∀J G,Mv S0 g w0 J G->Mv S g W J G)from u0;have M0:=show Hid (Mv S g W w0 (st.aw .X))from m0;clear t0 u0 m0))
 go_end0;rw[Y.out];exact⟨rfl,U0.out _ _ M1.out⟩
def yH {S:Nat->Prop}(h:SS S W g st) (u:st.ns≠[]) (I:Bz 999999990 st) :
  Sa 237 #[bP g] W λr w'=>Uk r (.tuple #[])/\Mv S g W w' (st.aws Fx.endHard.pz):=by
 have O:=aW λS V (H:SS S V g st)=>nX H u (I.mono (by omega))
 have Q:=aW λS V (H:SS S V g (st.aw .X))=>po H (mO u .X) ((I.aw .X).mono (by omega))
 have Y:Hid (st.aws Fx.endHard.pz=((st.aw .X).aw (.H))):=rfl;have Z:=aW h;clear h I u;go_enter func237,ntmps237
 go_wp2_with(first|(go_at_call 149;refine(Q.out _ _ T0.out).mono ?_;rintro r1 w1⟨rfl,M⟩;have M1:=show Hid (Mv S0 g w0 w1 ((st.aw .X).aw (.H)))from M;clear M)|(go_at_call 148;refine(O.out _ _ Z.out).mono ?_;rintro r0 w0⟨rfl,m0⟩;obtain⟨S0,t0,u0⟩:=Mv.seq m0;have T0:=show Hid (SS S0 w0 g (st.aw .X))from t0;have U0:=show Hid (∀J G,Mv S0 g w0 J G->Mv S g W J G)from u0;have M0:=show Hid (Mv S g W w0 (st.aw .X))from m0;clear t0 u0 m0))
 go_end0;rw[Y.out];exact⟨rfl,U0.out _ _ M1.out⟩
def tg {S:Nat->Prop}(h:SS S W g st) (u:st.ns≠[]) (I:Bz 999999990 st) :
  Sa 242 #[bP g] W λr w'=>Uk r (.tuple #[])/\Mv S g W w' (st.aws Fx.in2Break0.pz):=by
 have O:=aW λS V (H:SS S V g st)=>AS H u (I.mono (by omega))
 have Q:=aW λS V (H:SS S V g (st.aw (.I 2)))=>mu H .B0 ⟨rfl,by decide⟩ ((I.aw (.I 2)).mono (by omega)) (.inr trivial)
 have Y:Hid (st.aws Fx.in2Break0.pz=((st.aw (.I 2)).aw .B0)):=rfl;have Z:=aW h;clear h I u;go_enter func242,ntmps242
 go_wp2_with(first|(go_at_call 210;refine(Q.out _ _ T0.out).mono ?_;rintro r1 w1⟨rfl,M⟩;have M1:=show Hid (Mv S0 g w0 w1 ((st.aw (.I 2)).aw .B0))from M;clear M)|(go_at_call 245;refine(O.out _ _ Z.out).mono ?_;rintro r0 w0⟨rfl,m0⟩;obtain⟨S0,t0,u0⟩:=Mv.seq m0;have T0:=show Hid (SS S0 w0 g (st.aw (.I 2)))from t0;have U0:=show Hid (∀J G,Mv S0 g w0 J G->Mv S g W J G)from u0;have M0:=show Hid (Mv S g W w0 (st.aw (.I 2)))from m0;clear t0 u0 m0))
 go_end0;rw[Y.out];exact⟨rfl,U0.out _ _ M1.out⟩
def tf {S:Nat->Prop}(h:SS S W g st) (u:st.ns≠[]) (I:Bz 999999990 st) :
  Sa 241 #[bP g] W λr w'=>Uk r (.tuple #[])/\Mv S g W w' (st.aws Fx.in2Break1.pz):=by
 have O:=aW λS V (H:SS S V g st)=>AS H u (I.mono (by omega))
 have Q:=aW λS V (H:SS S V g (st.aw (.I 2)))=>yI H (mO u (.I 2)) ((I.aw (.I 2)).mono (by omega))
 have Y:Hid (st.aws Fx.in2Break1.pz=((st.aw (.I 2)).aw (.B1))):=rfl;have Z:=aW h;clear h I u;go_enter func241,ntmps241
 go_wp2_with(first|(go_at_call 239;refine(Q.out _ _ T0.out).mono ?_;rintro r1 w1⟨rfl,M⟩;have M1:=show Hid (Mv S0 g w0 w1 ((st.aw (.I 2)).aw (.B1)))from M;clear M)|(go_at_call 245;refine(O.out _ _ Z.out).mono ?_;rintro r0 w0⟨rfl,m0⟩;obtain⟨S0,t0,u0⟩:=Mv.seq m0;have T0:=show Hid (SS S0 w0 g (st.aw (.I 2)))from t0;have U0:=show Hid (∀J G,Mv S0 g w0 J G->Mv S g W J G)from u0;have M0:=show Hid (Mv S g W w0 (st.aw (.I 2)))from m0;clear t0 u0 m0))
 go_end0;rw[Y.out];exact⟨rfl,U0.out _ _ M1.out⟩
def th {S:Nat->Prop}(h:SS S W g st) (u:st.ns≠[]) (G:Bz 999999990 st) :
  Sa 236 #[bP g] W λr w'=>Uk r (.tuple #[])/\Mv S g W w' (st.aws Fx.even2Hard.pz):=by
 have O:=aW λS V (I:SS S V g st)=>eo I (.J) ⟨rfl,rfl⟩ u (by have:=(G).1;omega) (by have:=(G).2.1;omega) (λn hn=>by have:=(G).2.2 n hn;omega)
 have Q:=aW λS V (I:SS S V g (st.aw (.J)))=>po I (mO u (.J)) ((G.aw (.J)).mono (by omega))
 have Y:Hid (st.aws Fx.even2Hard.pz=((st.aw (.J)).aw (.H))):=rfl;have Z:=aW h;clear h G u;go_enter func236,ntmps236
 go_wp2_with(first|(go_at_call 149;refine(Q.out _ _ T0.out).mono ?_;rintro r1 w1⟨rfl,M⟩;have M1:=show Hid (Mv S0 g w0 w1 ((st.aw (.J)).aw (.H)))from M;clear M)|(go_at_call 147;refine(O.out _ _ Z.out).mono ?_;rintro r0 w0⟨rfl,m0⟩;obtain⟨S0,t0,u0⟩:=Mv.seq m0;have T0:=show Hid (SS S0 w0 g (st.aw (.J)))from t0;have U0:=show Hid (∀J H,Mv S0 g w0 J H->Mv S g W J H)from u0;have M0:=show Hid (Mv S g W w0 (st.aw (.J)))from m0;clear t0 u0 m0))
 go_end0;rw[Y.out];exact⟨rfl,U0.out _ _ M1.out⟩
def mL {S:Nat->Prop}(h:SS S W g st) (u:st.ns≠[]) (G:Bz 999999990 st) :
  Sa 209 #[bP g] W λr w'=>Uk r (.tuple #[])/\Mv S g W w' (st.aws Fx.blankIn3.pz):=by
 have O:=aW λS V (I:SS S V g st)=>js I u (G.mono (by omega))
 have Q:=aW λS V (I:SS S V g (st.aw (.S)))=>eo I (.I 3) ⟨rfl,rfl⟩ (mO u (.S)) (by have:=((G.aw (.S))).1;omega) (by have:=((G.aw (.S))).2.1;omega) (λn hn=>by have:=((G.aw (.S))).2.2 n hn;omega)
 have Y:Hid (st.aws Fx.blankIn3.pz=((st.aw (.S)).aw (.I 3))):=rfl;have Z:=aW h;clear h G u;go_enter func209,ntmps209
 go_wp2_with(first|(go_at_call 147;refine(Q.out _ _ T0.out).mono ?_;rintro r1 w1⟨rfl,M⟩;have M1:=show Hid (Mv S0 g w0 w1 ((st.aw (.S)).aw (.I 3)))from M;clear M)|(go_at_call 154;refine(O.out _ _ Z.out).mono ?_;rintro r0 w0⟨rfl,m0⟩;obtain⟨S0,t0,u0⟩:=Mv.seq m0;have T0:=show Hid (SS S0 w0 g (st.aw (.S)))from t0;have U0:=show Hid (∀J H,Mv S0 g w0 J H->Mv S g W J H)from u0;have M0:=show Hid (Mv S g W w0 (st.aw (.S)))from m0;clear t0 u0 m0))
 go_end0;rw[Y.out];exact⟨rfl,U0.out _ _ M1.out⟩
def wG {S:Nat->Prop}(h:SS S W g st) (u:st.ns≠[]) (G:Bz 999999990 st) :
  Sa 238 #[bP g] W λr w'=>Uk r (.tuple #[])/\Mv S g W w' (st.aws Fx.blankIn4.pz):=by
 have O:=aW λS V (I:SS S V g st)=>js I u (G.mono (by omega))
 have Q:=aW λS V (I:SS S V g (st.aw (.S)))=>eo I (.I 4) ⟨rfl,rfl⟩ (mO u (.S)) (by have:=((G.aw (.S))).1;omega) (by have:=((G.aw (.S))).2.1;omega) (λn hn=>by have:=((G.aw (.S))).2.2 n hn;omega)
 have Y:Hid (st.aws Fx.blankIn4.pz=((st.aw (.S)).aw (.I 4))):=rfl;have Z:=aW h;clear h G u;go_enter func238,ntmps238
 go_wp2_with(first|(go_at_call 147;refine(Q.out _ _ T0.out).mono ?_;rintro r1 w1⟨rfl,M⟩;have M1:=show Hid (Mv S0 g w0 w1 ((st.aw (.S)).aw (.I 4)))from M;clear M)|(go_at_call 154;refine(O.out _ _ Z.out).mono ?_;rintro r0 w0⟨rfl,m0⟩;obtain⟨S0,t0,u0⟩:=Mv.seq m0;have T0:=show Hid (SS S0 w0 g (st.aw (.S)))from t0;have U0:=show Hid (∀J H,Mv S0 g w0 J H->Mv S g W J H)from u0;have M0:=show Hid (Mv S g W w0 (st.aw (.S)))from m0;clear t0 u0 m0))
 go_end0;rw[Y.out];exact⟨rfl,U0.out _ _ M1.out⟩
def yF {S:Nat->Prop}(h:SS S W g st) :
  Sa 213 #[bP g] W λr w'=>Uk r (.tuple #[])/\Mv S g W w' (st.aws Fx.nothing.pz):=by
 have u:=aW (Mv.refl h);clear h;go_enter func213,ntmps213;(go_wp2_with fail);go_end0;exact⟨rfl,u.out⟩
def Fx.id:Fx->Nat
 |.nothing=>213
 |.blank=>154
 |.break1=>239
 |.hard=>149
 |.fend=>240
 |.in1=>244
 |.in2=>245
 |.endBlank=>243
 |.endHard=>237
 |.in2Break0=>242
 |.in2Break1=>241
 |.even2Hard=>236
 |.blankIn3=>209
 |.blankIn4=>238
def GJ (f:Fx) {S:Nat->Prop}{W:World}{g:Nat}{st:Sy}(h:SS S W g st) (u:st.ns≠[]) (G:Bz 999999990 st) :
  Sa f.id #[bP g] W λr w'=>Uk r (.tuple #[])/\Mv S g W w' (st.aws f.pz):=by
 cases f with
 |nothing=>exact yF h
 |blank=>exact GI h u G
 |break1=>exact Db h u G
 |hard=>exact KQ h u G
 |fend=>exact KR h u G
 |in1=>exact N1 h u G
 |in2=>exact N0 h u G
 |endBlank=>exact wF h u G
 |endHard=>exact yH h u G
 |in2Break0=>exact tg h u G
 |in2Break1=>exact tf h u G
 |even2Hard=>exact th h u G
 |blankIn3=>exact mL h u G
 |blankIn4=>exact wG h u G
open Lw (Dc bE rt bQ cq gK kq bR aS bY DV kC o6 eY II)
def Cf (c:UInt8) (w:World):Sa 208 #[.int .u8 (c.toNat:Int)] w λe w'=>Uk e (.bool (DV c))/\w'=w:=by
 have u:((c.toNat:Int)==32)=(c==32):=by revert c;exact II (by decide +kernel)
 have G:((c.toNat:Int)==10)=(c==10):=by revert c;exact II (by decide +kernel)
 have e:DV c=((c.toNat:Int)==32||(c.toNat:Int)==10):=by rw[u,G];rfl
 rw[e];clear e u G;generalize(c.toNat:Int)=z;go_enter func208,ntmps208;(go_wp2_with fail)
 all_goals(go_ret;simp_all)
def BZ (t:ByteArray) (ht:t.size<=9223372036854775807) (w:World):Sa 143 #[.string t] w λe w'=>Uk e (.bool (gK t))/\w'=w:=by
 by_cases I:t.size=0
 ·have Q:t=⟨#[]⟩:=by
   apply o6
   exact R6 (by rw[eY];exact I)
  subst Q;go_enter func143,ntmps143;(go_wp2_with fail);go_ret;exact⟨rfl,rfl⟩
 ·have S:¬t.toList=[]:=by
   rw[Lib.toList_data];intro hl;exact absurd (by have:=eY t;rw[kC,hl]at this;simpa using this.symm) I
  by_cases J:t.size<=65535
  ·have G:0<t.size:=by omega
   have u:t.size-1<t.size:=by omega
   have H:Hid (gK t=(!DV t[0]&&!DV (t[t.size-1]))):=by
    show _=_;unfold gK;have M:(kC t).getD 0 0=t[0]:=(Lib.getD_at t 0 G).symm;have O:(kC t).getD (t.size-1) 0=t[t.size-1]:=(Lib.getD_at t (t.size-1) u).symm;rw[M,O];simp[J,show 1<=t.size by omega]
   go_enter func143,ntmps143
   go_wp2_with(go_at_call 208;refine(Cf _ _).mono ?_;rintro e Y⟨rfl,rfl⟩)
   all_goals(go_ret;rw[H.out];clear H;refine⟨?_,rfl⟩;simp_all)
  ·go_enter func143,ntmps143;(go_wp2_with fail)
   go_ret;refine⟨?_,rfl⟩;simp[gK,J]
def wn (d:Dc) (w:World):Sa 215 #[.agg #[.int .u8 d.k,.string d.t,Tu d.b,Tu d.i,.bool d.e]] w λe w'=>Uk e (.bool (br d))/\Se w w':=by
 have G:Hid (br d=(d.k==6)):=by show _=_;unfold br;by_cases h:d.k=6<;>simp[h]
 have u:Hid (∀o,Se w (w.alloc o)):=λo=>(gt _ _).alloc (ge _) _
 go_enter func215,ntmps215;(go_wp2_with fail)
 go_ret;rw[G.out];exact⟨rfl,u.out _⟩
def Gq (d:Dc) (w:World):Sa 157 #[.agg #[.int .u8 d.k,.string d.t,Tu d.b,Tu d.i,.bool d.e]] w λe w'=>Uk e (.bool (fi d))/\Se w w':=by
 have G:Hid (fi d=(d.k==4)):=by show _=_;unfold fi;by_cases h:d.k=4<;>simp[h]
 have u:Hid (∀o,Se w (w.alloc o)):=λo=>(gt _ _).alloc (ge _) _
 go_enter func157,ntmps157;(go_wp2_with fail)
 go_ret;rw[G.out];exact⟨rfl,u.out _⟩
def Gr (d:Dc) (w:World):Sa 153 #[.agg #[.int .u8 d.k,.string d.t,Tu d.b,Tu d.i,.bool d.e]] w λe w'=>Uk e (.bool (eh d))/\Se w w':=by
 have H:Hid (∀o,Se w (w.alloc o)):=λo=>(gt _ _).alloc (ge _) _
 obtain⟨k,t,b,i,e⟩:=d;dsimp only
 by_cases u:k=2
 ·subst u;go_enter func153,ntmps153;(go_wp2_with fail);go_ret;exact⟨rfl,H.out _⟩
 ·have Y:(k==2)=false:=by simpa using u
  by_cases G:k=4
  ·subst G;go_enter func153,ntmps153;(go_wp2_with fail);go_ret;exact⟨rfl,H.out _⟩
  ·have Z:(k==4)=false:=by simpa using G
   have J:Hid (eh ⟨k,t,b,i,e⟩=(k==3&&(t.toList==[]&&(b==1&&(i==0&&!e))))):=by
    show _=_;unfold eh dB;rw[R9 u,R9 G,Bool.false_or,Bool.false_or];have ht:=Lw.Jm t;have I:bE.toList=[]:=by rw[Lib.toList_data];rfl
    by_cases M:k=3<;>by_cases O:t=bE<;>by_cases Q:b=1<;>by_cases S:i=0<;>cases e<;>simp[M,O,Q,S,ht,I]
   clear u G;go_enter func153,ntmps153;(go_wp2_with fail)
   all_goals(go_ret;rw[J.out];refine⟨?_,H.out _⟩;simp_all)
def Gs (t:Tv) (w:World):Sa 144 #[.agg #[.int .u8 t.k,.string t.t,Tu t.a,Tu t.l,Tu t.c,Tu t.f]] w λe w'=>Uk e (.bool (decide (t.k=7\/t.k=8)))/\Se w w':=by
 have u:Hid (∀o,Se w (w.alloc o)):=λo=>(gt _ _).alloc (ge _) _
 have G:Hid (decide (t.k=7\/t.k=8)=(t.k==7||t.k==8)):=by show _=_;by_cases a:t.k=7<;>by_cases b:t.k=8<;>simp[a,b]
 go_enter func144,ntmps144;(go_wp2_with fail)
 all_goals(go_ret;rw[G.out];refine⟨?_,u.out _⟩;simp_all)
def oB (t:Tv) (w:World):Sa 155 #[.agg #[.int .u8 t.k,.string t.t,Tu t.a,Tu t.l,Tu t.c,Tu t.f]] w λe w'=>Uk e (.agg #[.int .u8 1,.string t.t,Tu 0,Tu 0,.bool false])/\Below w.heap.size w w':=by
 obtain⟨V,G⟩:=ea (w.alloc (.cells #[.int .u8 t.k,.string t.t,Tu t.a,Tu t.l,Tu t.c,Tu t.f] 49));have Q:Below w.heap.size w V:=by rw[<-G];exact(gt _ _).alloc (ge _) _
 have S:V.heap.size=w.heap.size+1:=by rw[<-G];show(w.heap.push _).size=_;simp
 have u:=ak V (.cells #[.int .u8 1,.string t.t,Tu 0,Tu 0,.bool false] 37);rw[S,<-G]at u;have HN:Hid ((V.alloc (.cells #[.int .u8 1,.string t.t,Tu 0,Tu 0,.bool false] 37))=(V.alloc (.cells #[.int .u8 1,.string t.t,Tu 0,Tu 0,.bool false] 37))/\∀o,Below w.heap.size w (V.alloc o)):=⟨rfl,λo=>Q.alloc Q.size _⟩;rw[<-G]at HN;have H:=aa (k:=0) u rfl;have I:=aa (k:=1) u rfl;have J:=aa (k:=2) u rfl;have M:=aa (k:=3) u rfl;have O:=aa (k:=4) u rfl;have Y:Hid _:=And.intro H (And.intro I (And.intro J (And.intro M O)));clear G S u Q H I J M O;go_enter func155,ntmps155;(go_wp2_with fail);obtain⟨H,I,J,M,O⟩:=Y.out;refine R0 (v:=.agg #[.int .u8 1,.string t.t,Tu 0,Tu 0,.bool false]) (by simp[results,Tryz.f155,go_sem,H,I,J,M,O]) rfl ?_;exact⟨rfl,HN.out.2 _⟩
def CZ (k:Int) (w:World):Sa 146 #[.int .u8 k] w λe w'=>Uk e (.bool (kE k))/\w'=w:=by
 by_cases h:kE k=true
 ·have u:=SE h;rw[h]
  rcases u with rfl|rfl|rfl|rfl|rfl|rfl|rfl|rfl|rfl|rfl|rfl|rfl
  all_goals(
   go_enter func146,ntmps146;(go_wp2_with fail)
   go_ret;exact⟨rfl,rfl⟩)
 ·have u:¬_:=λe=>h (R8 e)
  rw[Bool.eq_false_iff.2 h];simp only[not_or]at u;obtain⟨G,H,I,J,M,O,Q,S,Y,Z,b2,b3⟩:=u;have p1:(k==3)=false:=by simpa using G
  have p2:(k==4)=false:=by simpa using H
  have p3:(k==5)=false:=by simpa using I
  have p4:(k==11)=false:=by simpa using J
  have p5:(k==13)=false:=by simpa using M
  have p6:(k==14)=false:=by simpa using O
  have p7:(k==15)=false:=by simpa using Q
  have p8:(k==16)=false:=by simpa using S
  have p9:(k==17)=false:=by simpa using Y
  have r1:(k==18)=false:=by simpa using Z
  have r2:(k==19)=false:=by simpa using b2
  have r3:(k==20)=false:=by simpa using b3
  clear h G H I J M O Q S Y Z b2 b3;go_enter func146,ntmps146;(go_wp2_with fail);go_ret;exact⟨rfl,rfl⟩
def fe {dn:Bool}(c0:W.cell? (Tw g 0)=some (.bool dn)):Sa 80 #[bP g] W λr w'=>Uk r (Tu (if dn then 4 else 0))/\w'=W:=by
 cases dn
 all_goals(
  go_enter func80,ntmps80;(go_wp2_with fail)
  go_ret;exact⟨rfl,rfl⟩)
def Ld (w:World) (ao:Option Addr) (l:List Dc):Prop:=∀j d,l[j]?=some d->∃b off,ao=some ⟨b,off,none⟩ /\
 w.cell? ⟨b,off+j*5,none⟩=some (.int .u8 d.k)/\w.cell? ⟨b,off+j*5+1,none⟩=some (.string d.t)/\w.cell? ⟨b,off+j*5+2,none⟩=some (Tu d.b)/\w.cell? ⟨b,off+j*5+3,none⟩=some (Tu d.i)/\w.cell? ⟨b,off+j*5+4,none⟩=some (.bool d.e)
def Ld.kp {S:Nat->Prop}{w w':World}{ao:Option Addr}{l:List Dc}(h:Ld w ao l) (M:Kp S w w') (I:∀a,ao=some a->¬S a.block):Ld w' ao l:=by
 intro j a J;obtain⟨b,G,H,c0,c1,c2,c3,c4⟩:=h j a J;have u:=RV _ _ c0;have e:w'.heap[b]?=w.heap[b]?:=M.block b u (I _ H);exact⟨b,G,H,(RX (a:=(Tw b _)) e).trans c0,(RX (a:=(Tw b _)) e).trans c1,(RX (a:=(Tw b _)) e).trans c2,(RX (a:=(Tw b _)) e).trans c3,(RX (a:=(Tw b _)) e).trans c4⟩
def Ld.below {w':World}(h:Ld w ao l) (u:Below w.heap.size w w'):Ld w' ao l:=h.kp (Kp.of_below (S:=λ_=>False) u) (λ_ _ h=>h)
def Ld.take (h:Ld w ao l) (n:Nat):Ld w ao (l.take n):=by
 intro j d u;rw[Sv]at u
 split at u
 ·exact h j d u
 ·cases u
def vm {p:Option Addr}{cap:Nat}(h:Rd w (.slice p n cap) l):Ld w p l:=by
 intro j d G
 rcases h.2 with⟨H,I⟩|⟨g,cap',M,H,_⟩
 ·have:l=[]:=R6 I;subst this;simp at G
 ·cases H
  have hc:∀(k:Nat) (u:Value),(bR l)[k]?=some u->w.cell? (Tw g k)=some u:=λk u J=>by
   have:=Ut h (g:=g) rfl k u J;rw[S8,R3]at this;exact this
  refine⟨g,0,rfl,?_,?_,?_,?_,?_⟩
  ·rw[R3];exact hc _ _ (aP Dc.cs 5 Lw.Dc.cs_len l j 0 d _ G rfl)
  ·rw[R3];exact hc _ _ (aP Dc.cs 5 Lw.Dc.cs_len l j 1 d _ G rfl)
  ·rw[R3];exact hc _ _ (aP Dc.cs 5 Lw.Dc.cs_len l j 2 d _ G rfl)
  ·rw[R3];exact hc _ _ (aP Dc.cs 5 Lw.Dc.cs_len l j 3 d _ G rfl)
  ·rw[R3];exact hc _ _ (aP Dc.cs 5 Lw.Dc.cs_len l j 4 d _ G rfl)
def lh (p:α->Bool) (l:List α) (k:Nat) (x:α) (u:l[k]?=some x) (h:(l.take k).any p=false):(l.take (k+1)).any p=p x:=by
 rw[T2,u,List.any_append,h];simp
def lg (p:α->Bool) (l:List α) (k:Nat) (h:(l.take k).any p=true):l.any p=true:=by
 rw[WA]at h ⊢;obtain⟨x,u,e⟩:=h;exact⟨x,VA u,e⟩
def Gp (ao:Option Addr) (l:List Dc) (cap:Nat) (W:World) (h:Ld W ao l) (hl:l.length<=1000000000) :
  Sa 248 #[.slice ao l.length cap,.func (.func 215) #[] #[]] W λr w'=>(∃z:Int,Uk r (Tu z)/\(decide (0<=z)=l.any br))/\Se W w':=by
 have H:=aW h;clear h;have S:=aW wn;go_enter func248,ntmps248;(go_wp2_with fail)
 go_loopw [5,8] (λ_ i wr=>∃k:Nat,k<=l.length/\i=Tu k/\Hid ((l.take k).any br=false)/\Hid (Se W wr)) (λ_ i _=>l.length-(intOf i).toNat)
 case atStart=>exact⟨0,RU _,rfl,by show _=_;simp,gt _ _⟩
 case round=>
  obtain⟨k,hk,rfl,HI,G⟩:=hrel
  by_cases J:k<l.length
  ·have q1:(k:Int)<l.length:=by omega
   have q0:(0:Int)<=k:=by omega
   obtain⟨x,O⟩:∃x,l[k]?=some x:=⟨_,Pi J⟩;obtain⟨b,off,rfl,c0,c1,c2,c3,c4⟩:=(H.out.below G.out) k x O;have Y:=aW (lh br l k x O HI.out);have Z:Hid ((l.take (k+1)).any br=true->l.any br=true):=lg br l _;clear O
   by_cases M:br x=true
   ·go_wp2_with(go_at_call 215;refine(S.out x _).mono ?_;rintro e Q⟨rfl,u⟩;rw[M];have HC:=aW (G.out.trans (u.mono G.out.size));clear u)
    go_ret;exact⟨⟨_,rfl,by rw[Z.out (Y.out.trans M)];simp⟩,HC.out⟩
   ·have I:br x=false:=by simpa using M
    clear M
    go_wp2_with(go_at_call 215;refine(S.out x _).mono ?_;rintro e Q⟨rfl,u⟩;rw[I];have HC:=aW (G.out.trans (u.mono G.out.size));clear u)
    exact⟨⟨k+1,J,by go_num,Y.out.trans I,HC⟩,by simp[intOf];omega⟩
  ·obtain rfl:k=l.length:=by omega
   have q1:¬((l.length:Int)<l.length):=by omega
   (go_wp2_with fail);go_ret;refine⟨⟨_,rfl,?_⟩,G.out⟩;have:=HI.out;rw[Te]at this;rw[this];rfl
def Hn (ao:Option Addr) (l:List Dc) (cap:Nat) (W:World) (h:Ld W ao l) (hl:l.length<=1000000000) :
  Sa 214 #[.slice ao l.length cap,.func (.func 215) #[] #[]] W λr w'=>Uk r (.bool (l.any br))/\Se W w':=by
 have H:=aW (Gp ao l cap W h hl);clear h;generalize l.any br=b at *;go_enter func214,ntmps214
 go_wp2_with(go_at_call 248;refine H.out.mono ?_;rintro r J⟨⟨z,rfl,I⟩,u⟩;have G:=aW u;clear u;subst I)
 go_ret;exact⟨by simp,G.out⟩
def Gm (ao:Option Addr) (l:List Dc) (cap:Nat) (W:World) (h:Ld W ao l) (hl:l.length<=1000000000) :
  Sa 248 #[.slice ao l.length cap,.func (.func 157) #[] #[]] W λr w'=>(∃z:Int,Uk r (Tu z)/\(decide (0<=z)=l.any fi))/\Se W w':=by
 have H:=aW h;clear h;have S:=aW Gq;go_enter func248,ntmps248;(go_wp2_with fail)
 go_loopw [5,8] (λ_ i wr=>∃k:Nat,k<=l.length/\i=Tu k/\Hid ((l.take k).any fi=false)/\Hid (Se W wr)) (λ_ i _=>l.length-(intOf i).toNat)
 case atStart=>exact⟨0,RU _,rfl,by show _=_;simp,gt _ _⟩
 case round=>
  obtain⟨k,hk,rfl,HI,G⟩:=hrel
  by_cases J:k<l.length
  ·have q1:(k:Int)<l.length:=by omega
   have q0:(0:Int)<=k:=by omega
   obtain⟨x,O⟩:∃x,l[k]?=some x:=⟨_,Pi J⟩;obtain⟨b,off,rfl,c0,c1,c2,c3,c4⟩:=(H.out.below G.out) k x O;have Y:=aW (lh fi l k x O HI.out);have Z:Hid ((l.take (k+1)).any fi=true->l.any fi=true):=lg fi l _;clear O
   by_cases M:fi x=true
   ·go_wp2_with(go_at_call 157;refine(S.out x _).mono ?_;rintro e Q⟨rfl,u⟩;rw[M];have HC:=aW (G.out.trans (u.mono G.out.size));clear u)
    go_ret;exact⟨⟨_,rfl,by rw[Z.out (Y.out.trans M)];simp⟩,HC.out⟩
   ·have I:fi x=false:=by simpa using M
    clear M
    go_wp2_with(go_at_call 157;refine(S.out x _).mono ?_;rintro e Q⟨rfl,u⟩;rw[I];have HC:=aW (G.out.trans (u.mono G.out.size));clear u)
    exact⟨⟨k+1,J,by go_num,Y.out.trans I,HC⟩,by simp[intOf];omega⟩
  ·obtain rfl:k=l.length:=by omega
   have q1:¬((l.length:Int)<l.length):=by omega
   (go_wp2_with fail);go_ret;refine⟨⟨_,rfl,?_⟩,G.out⟩;have:=HI.out;rw[Te]at this;rw[this];rfl
def Hl (ao:Option Addr) (l:List Dc) (cap:Nat) (W:World) (h:Ld W ao l) (hl:l.length<=1000000000) :
  Sa 214 #[.slice ao l.length cap,.func (.func 157) #[] #[]] W λr w'=>Uk r (.bool (l.any fi))/\Se W w':=by
 have H:=aW (Gm ao l cap W h hl);clear h;generalize l.any fi=b at *;go_enter func214,ntmps214
 go_wp2_with(go_at_call 248;refine H.out.mono ?_;rintro r J⟨⟨z,rfl,I⟩,u⟩;have G:=aW u;clear u;subst I)
 go_ret;exact⟨by simp,G.out⟩
def DM (h:SV W g st vn vw) (hl:st.ws.length<=1000000000) :
  Sa 152 #[bP g,.func (.func 157) #[] #[]] W λr w'=>Uk r (.bool (st.ws.any fi))/\Se W w':=by
 obtain⟨p,cap,e,_⟩:=bv h.rd;subst e;have H:=aW (Hl p st.ws cap W (vm h.rd) hl);obtain⟨c0,c1,c2,c3,c4,c5,c6,c7⟩:=h.sb.cells;generalize st.ws.any fi=b at *;generalize st.ws.length=n at *;clear h c0 c1 c3 c4 c5 c6 c7;go_enter func152,ntmps152
 go_wp2_with(go_at_call 214;refine H.out.mono ?_;rintro r I⟨rfl,u⟩;have G:=aW u;clear u)
 go_ret;exact⟨rfl,G.out⟩
def Gn (ao:Option Addr) (l:List Dc) (cap:Nat) (W:World) (h:Ld W ao l) (hl:l.length<=1000000000) :
  Sa 248 #[.slice ao l.length cap,.func (.func 153) #[] #[]] W λr w'=>(∃z:Int,Uk r (Tu z)/\(decide (0<=z)=l.any eh))/\Se W w':=by
 have H:=aW h;clear h;have S:=aW Gr;go_enter func248,ntmps248;(go_wp2_with fail)
 go_loopw [5,8] (λ_ i wr=>∃k:Nat,k<=l.length/\i=Tu k/\Hid ((l.take k).any eh=false)/\Hid (Se W wr)) (λ_ i _=>l.length-(intOf i).toNat)
 case atStart=>exact⟨0,RU _,rfl,by show _=_;simp,gt _ _⟩
 case round=>
  obtain⟨k,hk,rfl,HI,G⟩:=hrel
  by_cases J:k<l.length
  ·have q1:(k:Int)<l.length:=by omega
   have q0:(0:Int)<=k:=by omega
   obtain⟨x,O⟩:∃x,l[k]?=some x:=⟨_,Pi J⟩;obtain⟨b,off,rfl,c0,c1,c2,c3,c4⟩:=(H.out.below G.out) k x O;have Y:=aW (lh eh l k x O HI.out);have Z:Hid ((l.take (k+1)).any eh=true->l.any eh=true):=lg eh l _;clear O
   by_cases M:eh x=true
   ·go_wp2_with(go_at_call 153;refine(S.out x _).mono ?_;rintro e Q⟨rfl,u⟩;rw[M];have HC:=aW (G.out.trans (u.mono G.out.size));clear u)
    go_ret;exact⟨⟨_,rfl,by rw[Z.out (Y.out.trans M)];simp⟩,HC.out⟩
   ·have I:eh x=false:=by simpa using M
    clear M
    go_wp2_with(go_at_call 153;refine(S.out x _).mono ?_;rintro e Q⟨rfl,u⟩;rw[I];have HC:=aW (G.out.trans (u.mono G.out.size));clear u)
    exact⟨⟨k+1,J,by go_num,Y.out.trans I,HC⟩,by simp[intOf];omega⟩
  ·obtain rfl:k=l.length:=by omega
   have q1:¬((l.length:Int)<l.length):=by omega
   (go_wp2_with fail);go_ret;refine⟨⟨_,rfl,?_⟩,G.out⟩;have:=HI.out;rw[Te]at this;rw[this];rfl
def Hm (ao:Option Addr) (l:List Dc) (cap:Nat) (W:World) (h:Ld W ao l) (hl:l.length<=1000000000) :
  Sa 214 #[.slice ao l.length cap,.func (.func 153) #[] #[]] W λr w'=>Uk r (.bool (l.any eh))/\Se W w':=by
 have H:=aW (Gn ao l cap W h hl);clear h;generalize l.any eh=b at *;go_enter func214,ntmps214
 go_wp2_with(go_at_call 248;refine H.out.mono ?_;rintro r J⟨⟨z,rfl,I⟩,u⟩;have G:=aW u;clear u;subst I)
 go_ret;exact⟨by simp,G.out⟩
def DN (h:SV W g st vn vw) (hl:st.ws.length<=1000000000) :
  Sa 152 #[bP g,.func (.func 153) #[] #[]] W λr w'=>Uk r (.bool (st.ws.any eh))/\Below W.heap.size W w':=by
 obtain⟨p,cap,e,_⟩:=bv h.rd;subst e;have H:=aW (Hm p st.ws cap W (vm h.rd) hl);obtain⟨c0,c1,c2,c3,c4,c5,c6,c7⟩:=h.sb.cells;generalize st.ws.any eh=b at *;generalize st.ws.length=n at *;clear h c0 c1 c3 c4 c5 c6 c7;go_enter func152,ntmps152
 go_wp2_with(go_at_call 214;refine H.out.mono ?_;rintro r I⟨rfl,u⟩;have G:=aW u;clear u)
 go_ret;exact⟨rfl,G.out⟩
