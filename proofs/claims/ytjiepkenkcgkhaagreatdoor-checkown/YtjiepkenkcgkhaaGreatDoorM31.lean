import Derived.Deep.RegionHeld3
import Derived.Deep.RegionWith
import Derived.WalkMore
import Derived.Laws.OwnMore
import Derived.Laws.AppendOwnNone
import Derived.Test.YtjiepkenkcgkhaaGreatDoorM10
import Derived.Test.YtjiepkenkcgkhaaGreatDoorM30
set_option linter.unusedVariables false
set_option linter.unusedSimpArgs false
set_option maxHeartbeats 1000000
set_option maxRecDepth 100000
namespace Go.Proofs.YtjiepkenkcgkhaaGreatDoor
open Go.RowKit
open Lw (Dc bE rt cy dh eZ ij)
inductive Pz|S|B0|B1|H|I (n:Nat)|J|X
deriving DecidableEq
def dS:Dc:=⟨2,bE,0,0,false⟩
def dB (n:Int):Dc:=⟨3,bE,n,0,false⟩
def dH:Dc:=⟨4,bE,0,0,false⟩
def dE:Dc:=⟨5,bE,0,0,false⟩
def dI (n:Int) (e:Bool):Dc:=⟨6,bE,0,n,e⟩
def dX:Dc:=⟨7,bE,0,0,false⟩
def dT (t:ByteArray):Dc:=⟨1,t,0,0,false⟩
def Pz.d:Pz->Dc
 |.S=>dS
 |.B0=>dB 0
 |.B1=>dB 1
 |.H=>dH
 |.I n=>dI n false
 |.J=>dI 2 true
 |.X=>dX
def Pz.n:Pz->Nat
 |.I _=>1
 |.J=>1
 |_=>0
structure Nd where
 k:Int
 b:Nat
 s:Bool
deriving DecidableEq
structure Sy where
 ns:List Nd
 ws:List Dc
 mr:Option Nat
 wr:Bool
 en:Bool
 pt:Bool
def qd:Sy:=⟨[],[],none,false,false,false⟩
def ia (p:Pz):List Nd->List Nd
 |[]=>[]
 |n :: r=>(if p=.X then { n with b:=n.b-1 } else { n with b:=n.b+p.n }) :: r
def jB (p:Pz) (ns:List Nd):List Dc:=if p=.X/\((ns.head?.map (·.b)).getD 0)=0 then [] else [p.d]
def Sy.aw (s:Sy) (p:Pz):Sy:={ s with ns:=ia p s.ns,ws:=s.ws++jB p s.ns }
def Sy.aws (s:Sy) (l:List Pz):Sy:=l.foldl Sy.aw s
inductive Fx|nothing|blank|break1|hard|fend|endBlank|endHard|in1|in2|in2Break0|in2Break1|even2Hard|blankIn3|blankIn4
deriving DecidableEq
def Fx.pz:Fx->List Pz
 |.nothing=>[]
 |.blank=>[.S]
 |.break1=>[.B1]
 |.hard=>[.H]
 |.fend=>[.X]
 |.endBlank=>[.X,.S]
 |.endHard=>[.X,.H]
 |.in1=>[.I 1]
 |.in2=>[.I 2]
 |.in2Break0=>[.I 2,.B0]
 |.in2Break1=>[.I 2,.B1]
 |.even2Hard=>[.J,.H]
 |.blankIn3=>[.S,.I 3]
 |.blankIn4=>[.S,.I 4]
structure Rw where
 ns:List Int
 t:List UInt8
 a:Fx
 b:Fx
deriving DecidableEq
def tab:List Rw:=[
 ⟨[1,0,0,0,0,0],[112,114,111,103,114,97,109],.nothing,.blank⟩,
 ⟨[1,12,10,0,0,0],[59],.nothing,.hard⟩,
 ⟨[2,20,0,0,0,0],[98,101,103,105,110],.nothing,.even2Hard⟩,
 ⟨[2,20,10,15,16,17],[101,110,100],.endHard,.nothing⟩,
 ⟨[3,0,0,0,0,0],[118,97,114],.nothing,.blankIn4⟩,
 ⟨[3,7,11,29,31,0],[44],.nothing,.break1⟩,
 ⟨[3,7,11,0,0,0],[58],.fend,.blank⟩,
 ⟨[3,0,0,0,0,0],[59],.nothing,.hard⟩,
 ⟨[4,0,0,0,0,0],[99,111,110,115,116],.nothing,.blank⟩,
 ⟨[5,0,0,0,0,0],[112,114,111,99],.nothing,.blank⟩,
 ⟨[4,0,0,0,0,0],[61],.blank,.in2Break1⟩,
 ⟨[4,0,0,0,0,0],[59],.fend,.hard⟩,
 ⟨[5,0,0,0,0,0],[58],.nothing,.blank⟩,
 ⟨[33,0,0,0,0,0],[59],.nothing,.even2Hard⟩,
 ⟨[5,0,0,0,0,0],[59],.fend,.hard⟩,
 ⟨[6,0,0,0,0,0],[40],.nothing,.in2Break0⟩,
 ⟨[6,0,0,0,0,0],[59],.nothing,.break1⟩,
 ⟨[6,27,31,0,0,0],[41],.fend,.nothing⟩,
 ⟨[9,0,0,0,0,0],[97,114,114,97,121],.nothing,.blank⟩,
 ⟨[9,0,0,0,0,0],[111,102],.blank,.blank⟩,
 ⟨[10,0,0,0,0,0],[114,101,99,111,114,100],.nothing,.even2Hard⟩,
 ⟨[14,0,0,0,0,0],[58,61],.blank,.break1⟩,
 ⟨[15,0,0,0,0,0],[105,102],.nothing,.blankIn3⟩,
 ⟨[15,0,0,0,0,0],[101,108,105,102],.endHard,.blankIn3⟩,
 ⟨[16,0,0,0,0,0],[119,104,105,108,101],.nothing,.blankIn3⟩,
 ⟨[15,0,0,0,0,0],[116,104,101,110],.endBlank,.even2Hard⟩,
 ⟨[15,0,0,0,0,0],[101,108,115,101],.endHard,.even2Hard⟩,
 ⟨[16,0,0,0,0,0],[100,111],.endBlank,.even2Hard⟩,
 ⟨[17,0,0,0,0,0],[102,111,114],.nothing,.blank⟩,
 ⟨[17,0,0,0,0,0],[58,61],.blank,.blank⟩,
 ⟨[17,0,0,0,0,0],[116,111],.blank,.blank⟩,
 ⟨[17,0,0,0,0,0],[100,111],.blank,.even2Hard⟩,
 ⟨[18,0,0,0,0,0],[114,101,112,101,97,116],.nothing,.even2Hard⟩,
 ⟨[18,0,0,0,0,0],[117,110,116,105,108],.endHard,.blankIn3⟩,
 ⟨[21,22,23,24,0,0],[],.blank,.break1⟩,
 ⟨[26,0,0,0,0,0],[110,111,116],.nothing,.blank⟩,
 ⟨[27,0,0,0,0,0],[40],.nothing,.in1⟩,
 ⟨[29,0,0,0,0,0],[91],.nothing,.in1⟩,
 ⟨[29,0,0,0,0,0],[93],.fend,.nothing⟩,
 ⟨[31,0,0,0,0,0],[40],.nothing,.in2⟩]
def Nd.is (n:Nd) (k:Int):Bool:=if k=33 then decide (n.k=5) && decide (n.b=0) else decide (n.k=k)
def Rw.fits (r:Rw) (n:Nd) (t:ByteArray):Bool:=(decide (r.t=[]) || decide (r.t=t.data.toList)) && r.ns.any n.is
def LP:Rw:=⟨[0,0,0,0,0,0],[],.nothing,.nothing⟩
def aG (n:Nd) (t:Tv):Rw:=if t.k=2\/t.k=6 then (tab.find? (fun r=>r.fits n t.t)).getD LP else LP
def fi (k:Int):Bool:=decide (k=3\/k=4\/k=5\/k=11\/k=13\/k=14\/k=15\/k=16\/k=17\/k=18\/k=19\/k=20)
def Sy.exprIn (s:Sy):Sy:=match s.ns with
 |[]=>s
 |n :: r=>{ (if n.k=19 then s.aws [.S,.I 3] else if n.k=31/\n.s=false then s.aws [.B0] else s) with
   ns:={ k:=n.k,b:=(if n.k=19 then n.b+1 else n.b),s:=true } :: r }
def Sy.mark (s:Sy) (k:Int):Sy:=if fi k=true/\s.mr=none then { s with mr:=some s.ws.length } else s
def qm (k:Int):List Pz:=if k=21\/k=22\/k=23\/k=24 then [.I 0] else if k=14\/k=7\/k=11 then [.I 2] else []
def Sy.opens (s:Sy) (k:Int):Sy:=
 let s1:=(if k=21 then s.exprIn else s).mark k
 { s1 with ns:=⟨k,0,false⟩ :: s1.ns }.aws (qm k)
def Sy.leaves (s:Sy):Sy:=match s.ns with
 |[]=>s
 |n :: r=>{ s with ns:=r,ws:=s.ws++List.replicate n.b dX++(if n.k=1 then [dH] else []) }
def be (d:Dc):Bool:=decide (d.k=6)
def bD (d:Dc):Bool:=decide (d.k=4)
def bQ (d:Dc):Bool:=decide (d.k=2) || (decide (d.k=4) || decide (d=dB 1))
def Sy.emp (s:Sy) (f:Int):Sy:=match s.mr with
 |none=>s
 |some m=>if f<2\/s.wr=false\/(s.ws.take m).any be=true then s else { s with ws:=s.ws.take m++dE :: s.ws.drop m }
def Sy.endl (s:Sy):Sy:=if s.en=true/\s.ws.any bD=false then { s with ws:=dH :: s.ws } else s
def Sy.part (s:Sy):Sy:=if s.pt=true/\s.ws.any bQ=false then { s with ws:=s.ws++[dS] } else s
def Sy.ready (s:Sy) (a:Fx) (f:Int):Sy:=(((s.aws a.pz).emp f).endl).part
def Sy.after (s:Sy) (b:Fx):Sy:=Sy.aws ⟨s.ns,[],none,true,false,false⟩ b.pz
def Sy.leaf (s:Sy) (t:Tv):Sy × List Dc:=match s.ns with
 |[]=>(s,[])
 |n :: _=>((s.ready (aG n t).a t.f).after (aG n t).b,(s.ready (aG n t).a t.f).ws++[dT t.t])
def Sy.note (s:Sy) (t:Tv):Sy × List Dc:=
 let bg:=s.ws.takeWhile be
 let rs:=s.ws.dropWhile be
 if t.f=0/\s.wr=true then (⟨s.ns,rs,none,true,s.en || decide (t.k=7),s.pt || decide (t.k=8)⟩,bg++[dS,dT t.t])
 else (⟨s.ns,rs,none,true,true,s.pt⟩,bg++dH :: ((if 2<=t.f/\s.wr=true/\bg=[] then [dE] else [])++[dT t.t]))
def Sy.may (s:Sy) (e:Ev):Bool:=
 if e.k=1 then decide (1<=e.n) && decide (e.n<=32)
 else if e.k=3 then (match s.ns with|[]=>false|n :: _=>decide (n.k=e.n))
 else if e.k=2 then !s.ns.isEmpty && eZ e.d.t
 else if e.k=4 then !s.ns.isEmpty && (eZ e.d.t && decide (e.d.k=7\/e.d.k=8))
 else false
def Sy.step (s:Sy) (e:Ev):Sy × List Dc:=
 if e.k=1 then (s.opens e.n,[]) else if e.k=3 then (s.leaves,[]) else if e.k=2 then s.leaf e.d else s.note e.d
def dy (s:Sy) (e:Ev):Option (Sy × List Dc):=if s.may e=true then some (s.step e) else none
def ic (s:Sy):Option (List Dc):=if s.ns=[] then some s.endl.ws else none
def cK:Sy->List Ev->Option (List Dc)
 |s,[]=>ic s
 |s,e :: r=>match dy s e with
  |none=>none
  |some (s',l)=>(cK s' r).map (l++·)
theorem ru (s:Sy) (p:Pz):(s.aw p).ws=s.ws++jB p s.ns:=rfl
theorem bZ (s:Sy) (p:Pz) (l:List Pz):s.aws (p :: l)=(s.aw p).aws l:=rfl
end Go.Proofs.YtjiepkenkcgkhaaGreatDoor
namespace Go.Proofs.YtjiepkenkcgkhaaGreatDoor
open Go.RowKit
variable {t:Tv}{n:Nd}{m:M}
def qi:Pz->Bool
 |.S=>true
 |.B1=>true
 |.H=>true
 |_=>false
def xE (p:Pz):Bool:=decide (p=.H)
def NF (k:Int) (x:ByteArray):Tv:=⟨k,x,0,0,0,0⟩
def QF (n:Int) (b:Nat) (k:Int) (x:ByteArray):List Pz:=(aG ⟨n,b,false⟩ (NF k x)).a.pz
def K0 (n:Int) (b:Nat) (k:Int) (x:ByteArray):List Pz:=(aG ⟨n,b,false⟩ (NF k x)).b.pz
def lu (n k:Int) (x:ByteArray):Bool:=(QF n 0 k x).any qi && (QF n 1 k x).any qi
def xd (n k:Int) (x:ByteArray):Bool:=(K0 n 0 k x).any qi && (K0 n 1 k x).any qi
def Jr (n k:Int) (x:ByteArray):Bool:=(K0 n 0 k x).any xE && (K0 n 1 k x).any xE
theorem oK (n:Nd) (t:Tv):aG n t=aG ⟨n.k,0,false⟩ (NF t.k t.t)\/aG n t=aG ⟨n.k,1,false⟩ (NF t.k t.t):=by
 have key:∀b:Nat,(n.b=0↔b=0)->aG n t=aG ⟨n.k,b,false⟩ (NF t.k t.t):=by
  intro b hb
  have h1:∀k,n.is k=Nd.is ⟨n.k,b,false⟩ k:=by
   intro k;unfold Nd.is
   split
   ·congr 1;exact Sz.2 hb
   ·rfl
  unfold aG
  have h2:(fun r:Rw=>r.fits n t.t)=(fun r:Rw=>r.fits ⟨n.k,b,false⟩ (NF t.k t.t).t):=by
   funext r
   unfold Rw.fits;have:n.is=Nd.is ⟨n.k,b,false⟩:=funext h1;rw [this];rfl
  rw [h2];rfl
 by_cases h:n.b=0
 ·exact .inl (key 0 (by omega))
 ·exact .inr (key 1 (by omega))
theorem Ia (h:lu n.k t.k t.t=true):((aG n t).a.pz).any qi=true:=by
 simp only [lu,QR] at h
 rcases oK n t with e|e <;> rw [e]
 ·exact h.1
 ·exact h.2
theorem Hz (h:((aG n t).b.pz).any qi=false):xd n.k t.k t.t=false:=by
 unfold xd
 rcases oK n t with e|e <;> rw [e] at h
 ·rw [show (K0 n.k 0 t.k t.t).any qi=false from h,TE]
 ·rw [show (K0 n.k 1 t.k t.t).any qi=false from h,SX]
theorem Jq {n:Nd}{t:Tv}(h:((aG n t).b.pz).any xE=false):Jr n.k t.k t.t=false:=by
 unfold Jr
 rcases oK n t with e|e <;> rw [e] at h
 ·rw [show (K0 n.k 0 t.k t.t).any xE=false from h,TE]
 ·rw [show (K0 n.k 1 t.k t.t).any xE=false from h,SX]
def cW:Cl where
 tE n k x:=!decide (k=6) && !xd n k x
 tB n k x:=decide (k=6) || lu n k x
 nE:=true
 nB:=false
 mE m:=match m with|.variables=>false|.constants=>false|.procedure=>false|.params=>false|.index=>false|.args=>false|_=>true
 mB _:=false
 dE d:=match d with|.detail=>true|_=>false
 dB d:=match d with|.declaration=>false|_=>true
 xB n m:=decide (n=19/\m=.expr)
def Df:List (List UInt8):=[[60],[62],[58],[47],[46]]
def mT:List UInt8:=[61,46,47]
def cD:Cl where
 tE n k x:=decide (k=6) && (Df.contains x.data.toList && !xd n k x)
 tB n k x:=!(decide (k=6) && (x.data.toList.head?.elim false mT.contains)) || lu n k x
 nE:=false
 nB:=true
 mE _:=false
 mB _:=false
 dE _:=false
 dB _:=false
 xB _ _:=false
def cN:Cl where
 tE n k x:=!Jr n k x
 tB n k x:=true
 nE:=true
 nB:=true
 mE m:=match m with|.variables=>false|.constants=>false|.procedure=>false|_=>true
 mB m:=match m with|.variables=>false|.constants=>false|.procedure=>false|.member=>false|.statement=>false|.body=>false|.block=>false|_=>true
 dE d:=match d with|.declaration=>false|_=>true
 dB d:=match d with|.declaration=>false|_=>true
 xB _ m:=match m with|.expr=>true|.list=>true|_=>false
theorem OU {s:ByteArray}{l:List UInt8}(h:s.toList=l):s=⟨l.toArray⟩:=by
 apply tD
 rw [h,Tc]
def Gw.ckB (c:Cl) (m:M):Gw->Bool
 |.ref=>true
 |.ex r=>[3,7,11,29,31,24,25,26].all (fun n=>!m.nod n || (so c n true r && (c.mE m || so c n false r)))
 |.op nd r=>so c nd true r && (c.mE m || so c nd false r)
theorem OI {c:Cl}{g:Gw}(h:g.ckB c m=true) (hm:∀r,g=.ex r->m=.typed\/m=.list\/m=.factor):g.ck c m:=by
 have e:∀{a b d:Bool},(a && (b || d))=true->a=true/\(b=false->d=true):=by intro a b d;cases a <;> cases b <;> cases d <;> simp
 cases g with
 |ref=>trivial
 |op nd r=>exact e h
 |ex r=>
  intro n hn
  have hn':n∈([3,7,11,29,31,24,25,26]:List Int):=by
   rcases hm r rfl with rfl|rfl|rfl <;> simp only [M.nod,Rj] at hn <;> simp <;> omega
  have:=(Ti.1 h) n hn';rw [hn] at this;exact e (by simpa using this)
def QB:List Gw:=[Gw.op 13 [.fl (.wd 2 [⟨#[115,107,105,112]⟩])],Gw.op 15 [.fl (.wd 2 [⟨#[105,102]⟩]),.fl (.mt .expr),.fl (.wd 2 [⟨#[116,104,101,110]⟩]),.fl (.mt .body),.again (.row [.wd 2 [⟨#[101,108,105,102]⟩],.mt .expr,.wd 2 [⟨#[116,104,101,110]⟩],.mt .body]),.once (.row [.wd 2 [⟨#[101,108,115,101]⟩],.mt .body]),.fl (.wd 2 [⟨#[101,110,100]⟩])],Gw.op 16 [.fl (.wd 2 [⟨#[119,104,105,108,101]⟩]),.fl (.mt .expr),.fl (.wd 2 [⟨#[100,111]⟩]),.fl (.mt .body),.fl (.wd 2 [⟨#[101,110,100]⟩])],Gw.op 17 [.fl (.wd 2 [⟨#[102,111,114]⟩]),.fl (.nm),.fl (.wd 6 [⟨#[58,61]⟩]),.fl (.mt .expr),.fl (.wd 2 [⟨#[116,111]⟩]),.fl (.mt .expr),.fl (.wd 2 [⟨#[100,111]⟩]),.fl (.mt .body),.fl (.wd 2 [⟨#[101,110,100]⟩])],Gw.op 18 [.fl (.wd 2 [⟨#[114,101,112,101,97,116]⟩]),.fl (.mt .body),.fl (.wd 2 [⟨#[117,110,116,105,108]⟩]),.fl (.mt .expr)],Gw.op 19 [.fl (.wd 2 [⟨#[114,101,116,117,114,110]⟩]),.once (.ex .expr)],Gw.op 20 [.fl (.wd 2 [⟨#[98,101,103,105,110]⟩]),.fl (.mt .body),.fl (.wd 2 [⟨#[101,110,100]⟩])]]
theorem Au (c:Cl) (h:∀g∈QB,g.ckB c .statement=true) (s:ByteArray):(cd s).ckB c .statement=true:=by
 unfold cd
 repeat' split
 all_goals first
  |rfl
  | (rename_i hh;obtain rfl:=OU (eq_of_beq hh);first|exact h _ (List.Mem.head _)|exact h _ (List.Mem.tail _ (List.Mem.head _))|exact h _ (List.Mem.tail _ (List.Mem.tail _ (List.Mem.head _)))|exact h _ (List.Mem.tail _ (List.Mem.tail _ (List.Mem.tail _ (List.Mem.head _))))|exact h _ (List.Mem.tail _ (List.Mem.tail _ (List.Mem.tail _ (List.Mem.tail _ (List.Mem.head _)))))|exact h _ (List.Mem.tail _ (List.Mem.tail _ (List.Mem.tail _ (List.Mem.tail _ (List.Mem.tail _ (List.Mem.head _))))))|exact h _ (List.Mem.tail _ (List.Mem.tail _ (List.Mem.tail _ (List.Mem.tail _ (List.Mem.tail _ (List.Mem.tail _ (List.Mem.head _))))))))
def Oq:List Gw:=[Gw.op 8 [.fl .nm],Gw.op 9 [.fl (.wd 2 [⟨#[97,114,114,97,121]⟩]),.fl (.wd 6 [⟨#[91]⟩]),.fl (.mt .expr),.fl (.wd 6 [⟨#[46,46]⟩]),.fl (.mt .expr),.fl (.wd 6 [⟨#[93]⟩]),.fl (.wd 2 [⟨#[111,102]⟩]),.fl (.mt .kind)],Gw.op 10 [.fl (.wd 2 [⟨#[114,101,99,111,114,100]⟩]),.fl (.mt .member),.again (.row [.wd 6 [⟨#[59]⟩],.mt .member]),.fl (.wd 2 [⟨#[101,110,100]⟩])],.ref]
def Qn:List Gw:=[Gw.op 25 [.fl (.wd 6 [⟨#[45]⟩]),.fl (.mt .factor)],Gw.op 26 [.fl (.wd 2 [⟨#[110,111,116]⟩]),.fl (.mt .factor)],Gw.op 27 [.fl (.wd 6 [⟨#[40]⟩]),.fl (.mt .expr),.fl (.wd 6 [⟨#[41]⟩])],Gw.op 32 [.fl (.cs)],Gw.ex [.fl (.mt .object)],.ref]
theorem FY (c:Cl) 
  (h1:∀m∈([.block,.variables,.constants,.procedure,.params,.param,.typed,.member,.body,.expr,.rel,.sum,.term,.object,.index,.selection,.args,.list]:List M),(M.row aB m).ckB c m=true)
  (h2:∀g∈QB,g.ckB c .statement=true) (h3:(Gw.op 14 [.fl (.mt .object),.once (.row [.wd 6 [⟨#[58,61]⟩],.mt .expr])]).ckB c .statement=true)
  (h4:∀g∈Oq,g.ckB c .kind=true) (h5:∀g∈Qn,g.ckB c .factor=true)
  (h6:∀d t m,Dk.pick t d=some m->c.mE m=true->c.dE d=true):c.Ok:=by
 refine ⟨fun t m=>OI ?_ ?_,h6⟩
 ·cases m with
  |kind=>
   simp only [M.row]
   repeat' split
   all_goals first|exact h4 _ (List.Mem.head _)|exact h4 _ (List.Mem.tail _ (List.Mem.head _))|exact h4 _ (List.Mem.tail _ (List.Mem.tail _ (List.Mem.head _)))|exact h4 _ (List.Mem.tail _ (List.Mem.tail _ (List.Mem.tail _ (List.Mem.head _))))
  |factor=>
   simp only [M.row]
   repeat' split
   all_goals first|exact h5 _ (List.Mem.head _)|exact h5 _ (List.Mem.tail _ (List.Mem.head _))|exact h5 _ (List.Mem.tail _ (List.Mem.tail _ (List.Mem.head _)))|exact h5 _ (List.Mem.tail _ (List.Mem.tail _ (List.Mem.tail _ (List.Mem.head _))))|exact h5 _ (List.Mem.tail _ (List.Mem.tail _ (List.Mem.tail _ (List.Mem.tail _ (List.Mem.head _)))))|exact h5 _ (List.Mem.tail _ (List.Mem.tail _ (List.Mem.tail _ (List.Mem.tail _ (List.Mem.tail _ (List.Mem.head _))))))
  |statement=>
   simp only [M.row]
   split
   ·exact h3
   ·exact Au c h2 _
  |_=>exact h1 _ (by simp)
 ·intro r hr;cases m with
  |kind=>exfalso;simp only [M.row] at hr;(repeat' (split at hr)) <;> cases hr
  |statement=>exfalso;simp only [M.row,cd] at hr;(repeat' (split at hr)) <;> cases hr
  |typed=>simp
  |list=>simp
  |factor=>simp
  |_=>cases hr
theorem qP (h:Dk.pick t .declaration=some m):m=.variables\/m=.constants\/m=.procedure:=by
 simp only [Dk.pick] at h
 split at h
 ·cases h;exact .inl rfl
 ·split at h
  ·cases h;exact .inr (.inl rfl)
  ·split at h
   ·cases h;exact .inr (.inr rfl)
   ·cases h
theorem KV:cW.Ok:=FY cW (by decide) (by decide) (by decide) (by decide) (by decide) (fun d t m h e=>by
 cases d with
 |detail=>rfl
 |declaration=>rcases qP h with rfl|rfl|rfl <;> cases e
 |bracket=>simp only [Dk.pick] at h;split at h <;> cases h;cases e)
theorem KY:cD.Ok:=FY cD (by decide) (by decide) (by decide) (by decide) (by decide) (fun d t m h e=>by cases e)
theorem KX:cN.Ok:=FY cN (by decide) (by decide) (by decide) (by decide) (by decide) (fun d t m h e=>by
 cases d with
 |declaration=>rcases qP h with rfl|rfl|rfl <;> cases e
 |_=>rfl)
theorem IA:mJ cW (bY++[.lv 1])=true/\mJ cD (bY++[.lv 1])=true/\mJ cN (bY++[.lv 1])=true:=by decide
end Go.Proofs.YtjiepkenkcgkhaaGreatDoor
namespace Go.Proofs.YtjiepkenkcgkhaaGreatDoor
open Go.RowKit
open Lw (Dc bE rt cy dh eZ ij bU aW cg)
variable {W W':World}{g T b cap e sz:Nat}{vn vw v v':Value}{st:Sy}{l:List Dc}{n:Nd}{r:List Nd}{o:Oper}{a:Act}{dn m wr en pt:Bool}{i:Int}{xs:List Value}{rest:List Oper}
theorem gy (a b:List Dc):bU (a++b)=bU a++bU b:=cr Dc.cs a b
abbrev Rd (W:World) (v:Value) (l:List Dc):Prop:=W.ownsRow 0 71 5 v l.length (bU l)
theorem lA (W:World):Rd W (.slice none 0 0) []:=RR W 0 71 5
theorem yM {S:Nat->Prop}(h:Rd W v l) (hk:Kp S W W') (hS:∀k,v.ownBlock=some k->¬S k):Rd W' v l:=hk.row h hS
theorem fg (h:Rd W v l) (hb:Below W.heap.size W W'):Rd W' v l:=bp h hb
theorem bB (h:Rd W v l):∃p cap,v=.slice p l.length cap/\l.length<=cap/\cap<=maxLen:=aJ h
theorem gX {n:Nat}(h:W.ownsRow 0 e sz v n xs):∀k,v.ownBlock=some k->k<W.heap.size:=by
 intro k hk
 rcases h.2 with ⟨rfl,_⟩|⟨b,cap,cur,rfl,_,h3,_⟩
 ·cases hk
 ·simp only [Value.ownBlock,Rp] at hk;subst hk;exact aq h3
theorem ko {n e' sz' n':Nat}{xs':List Value}(h:W.ownsRow 0 e sz v n xs) (h':W.ownsRow 0 e' sz' v' n' xs') (he:e≠e'):∀k,v.ownBlock=some k->v'.ownBlock≠some k:=by
 intro k hk hk'
 rcases h'.2 with ⟨rfl,_⟩|⟨b,cap,cur,rfl,_,h3,_⟩
 ·cases hk'
 ·simp only [Value.ownBlock,Rp] at hk';subst hk';exact aM h h3 (fun e2=>he e2.symm) hk
theorem Tryz.info71:(Tryz.prog.info? 71).map (fun i=>(i.zero,i.size,i.bytes))=some (some (.agg #[.int .u8 0,.string ⟨#[]⟩,.int .i64 0,.int .i64 0,.bool false]),5,48):=by kernel_rfl
theorem De {ops:Array Oper}{K:Act->World->Prop}{Q:Exit->Act->World->Prop}{E:Prop}(hgd:o.guard=none) (s x:Operand)
  (ho:o.op=.call { callee:=.builtin .append,args:=#[s,x],argTypes:=#[35,35] }) (v:Value) (l:List Dc) (d:Dc) (hs:a.eval s=v) (hr:Rd W v l)
  (g c:Nat) (hx:a.eval x=.slice (some ⟨g,0,none⟩) 1 c) (hg:W.heap[g]?=some (.cells #[.int .u8 d.k,.string d.t,.int .i64 d.b,.int .i64 d.i,.bool d.e] 71 (0,0))) (hl:l.length<=1000000000)
  (h:∀q cap w',Rd w' (.slice (some ⟨q,0,none⟩) (l.length+1) cap) (l++[d])->W.grownBy w' v.ownBlock->(v.ownBlock=some q\/q=W.heap.size)->K (a.put o.dst (.slice (some ⟨q,0,none⟩) (l.length+1) cap)) w') :
  if Region.wanted o (yielded ops a.tmps)=true then Oper.wp Tryz.prog o a W K Q else E:=by
 obtain ⟨i0,hi,hz0,hz1,hz2⟩:=Sa Tryz.info71;refine TI W hgd s x 35 ho 0 71 i0 _ 5 48 RD hi hz0 hz1 hz2 rfl (by decide) v _ _ hs hr ⟨g,0,none⟩ 1 c (bU [d]) hx (by rw [aW];rfl) ?_ (cg [d]) (by omega) (by unfold maxLen;omega) (by omega) (QK _) _ rfl ?_
 ·intro j u hu;refine RW hg j u ?_;have e:bU [d]=[.int .u8 d.k,.string d.t,.int .i64 d.b,.int .i64 d.i,.bool d.e]:=by simp [bU,bz,Dc.cs]
  rw [e] at hu
  simpa using hu
 ·intro q cap w' a1 a2 a3 _;refine h q cap w' ?_ a2 a3;unfold Rd;rw [Or,gy];exact a1
theorem ry {ops:Array Oper}{Q:Exit->Act->World->Prop}(hgd:o.guard=none) (s x:Operand)
  (ho:o.op=.call { callee:=.builtin .append,args:=#[s,x],argTypes:=#[35,35] }) (v:Value) (l ds:List Dc) (hs:a.eval s=v) (hr:Rd W v l)
  (g c:Nat) (hx:a.eval x=.slice (some ⟨g,0,none⟩) ds.length c) (hg:W.heap[g]?=some (.cells (bU ds).toArray 71 (0,0))) (hl:l.length+ds.length<=2000000000)
  (h:∀v' w',Rd w' v' (l++ds)->W.grownBy w' v.ownBlock->Nb W v v'->wpList Tryz.prog ops Q rest (a.put o.dst v') w'):wpList Tryz.prog ops Q (o :: rest) a W:=by
 obtain ⟨i0,hi,hz0,hz1,hz2⟩:=Sa Tryz.info71;refine RT (P:=Tryz.prog) (w:=W) hgd s x 35 ho 0 71 i0 _ 5 48 RD hi hz0 hz1 hz2 rfl (by decide) v _ _ hs hr ⟨g,0,none⟩ ds.length c (bU ds) hx (by rw [aW]) ?_ (cg ds) (by unfold maxLen;omega) (by omega) (QK _) ?_
 ·intro j u hu;refine RW hg j u ?_
  simpa using hu
 ·intro v' w' h1 h2 _ h4;refine h v' w' ?_ h2 ?_
  ·unfold Rd;rw [Or,gy];exact h1
  ·rcases h4 with h4|h4
   ·exact .inl h4
   ·exact .inr ⟨_,h4,gt _⟩
theorem Gq {ops:Array Oper}{Q:Exit->Act->World->Prop}(hgd:o.guard=none) (s x:Operand)
  (ho:o.op=.call { callee:=.builtin .append,args:=#[s,x],argTypes:=#[35,35] }) (v vx:Value) (l ds:List Dc) (hs:a.eval s=v) (hr:Rd W v l)
  (hx:a.eval x=vx) (hrx:Rd W vx ds) (hl:l.length+ds.length<=1000000000000)
  (h:∀v' w',Rd w' v' (l++ds)->Kp (fun k=>v.ownBlock=some k) W w'->Nb W v v'->wpList Tryz.prog ops Q rest (a.put o.dst v') w'):wpList Tryz.prog ops Q (o :: rest) a W:=by
 have hc:=fun g (hg:vx.ownBlock=some g)=>Tf hrx hg
 obtain ⟨i0,hi,hz0,hz1,hz2⟩:=Sa Tryz.info71
 rcases hrx.2 with ⟨rfl,h0⟩|⟨g,cap,cur,rfl,_⟩
 ·obtain rfl:ds=[]:=QZ h0;refine wpList_append_own_none (P:=Tryz.prog) (w:=W) hgd s x 35 ho 0 71 i0 5 RD hi v _ _ hs hr hx ?_;exact h v W (by rw [Rx];exact hr) (Kp.refl _ _) (.inl rfl)
 ·refine RT (P:=Tryz.prog) (w:=W) hgd s x 35 ho 0 71 i0 _ 5 48 RD hi hz0 hz1 hz2 rfl (by decide) v _ _ hs hr ⟨g,0,none⟩ ds.length cap (bU ds) hx (aW ds) (hc g rfl) (cg _) (by unfold maxLen;omega) (by omega) (QK _) ?_;intro v' w' h1 h2 _ h4;refine h v' w' ?_ ((Kp.of_grown h2).sub (fun k e=>e.symm)) ?_
  ·unfold Rd;rw [Or,gy];exact h1
  ·rcases h4 with h4|h4
   ·exact .inl h4
   ·exact .inr ⟨_,h4,gt _⟩
def Nd.cs (n:Nd):List Value:=[.int .u8 n.k,.int .i64 n.b,.bool n.s]
theorem Nd.cs_len (n:Nd):n.cs.length=3:=rfl
theorem Nd.cs_one (n:Nd):∀u∈n.cs,u.oneCell'=true:=by
 intro u hu;simp only [Nd.cs,Rg,Tg,Vr] at hu
 rcases hu with rfl|rfl|rfl <;> rfl
def tU (l:List Nd):List Value:=bz Nd.cs l
theorem nt (l:List Nd):(tU l).length=l.length*3:=fV Nd.cs 3 Nd.cs_len l
theorem Ja (l:List Nd):∀u∈tU l,u.oneCell'=true:=by
 intro u hu;obtain ⟨d,_,h⟩:=TG.1 hu;exact d.cs_one u h
theorem nu (a b:List Nd):tU (a++b)=tU a++tU b:=cr Nd.cs a b
abbrev Rn (T:Nat) (W:World) (v:Value) (l:List Nd):Prop:=W.ownsRow 0 T 3 v l.length (tU l.reverse)
theorem oY (r:List Nd) (n:Nd) (j:Nat) (v:Value) (h:n.cs[j]?=some v):(tU (n :: r).reverse)[r.length*3+j]?=some v:=by
 rw [SH];exact aU Nd.cs 3 Nd.cs_len _ r.length j n v (by rw [Ty (by simp)];simp) h
theorem I0 (r:List Nd) (n m:Nd) (j:Nat) (v:Value) (hj:j<3) (h:n.cs.set j v=m.cs):(tU (n :: r).reverse).set (r.length*3+j) v=tU (m :: r).reverse:=by
 rw [SH,SH,nu,nu];have hl:(tU r.reverse).length=r.length*3:=by rw [nt,SO]
 rw [List.set_append_right _ _ (by omega),hl,T1];have e1:tU [n]=n.cs:=by simp [tU,bz]
 have e2:tU [m]=m.cs:=by simp [tU,bz]
 rw [e1,e2,h]
theorem mX (h:Rn T W v (n :: r)):∃b cap,v=.slice (some ⟨b,0,none⟩) (r.length+1) cap/\cap<=maxLen/\r.length+1<=cap:=by
 rcases h.2 with ⟨_,h0⟩|⟨b,cap,cur,h1,_,_,h4,h5,_⟩
 ·simp at h0
 ·exact ⟨b,cap,h1,h5,h4⟩
theorem kq (h:Rn T W (.slice (some ⟨b,0,none⟩) (r.length+1) cap) (n :: r)) :
  W.cell? ⟨b,r.length*3,none⟩=some (.int .u8 n.k)/\W.cell? ⟨b,r.length*3+1,none⟩=some (.int .i64 n.b)/\W.cell? ⟨b,r.length*3+2,none⟩=some (.bool n.s):=by
 have hc:∀(k:Nat) (u:Value),(tU (n :: r).reverse)[k]?=some u->W.cell? ⟨b,k,none⟩=some u:=fun k u hu=>by
  have:=Tf h (g:=b) rfl k u hu;rw [SE,QU] at this;exact this
 exact ⟨hc _ _ (oY r n 0 _ rfl),hc _ _ (oY r n 1 _ rfl),hc _ _ (oY r n 2 _ rfl)⟩
theorem LX {m:Nd}(h:Rn T W (.slice (some ⟨b,0,none⟩) (r.length+1) cap) (n :: r)) (j:Nat) (u:Value) (hj:j<3) (hm:n.cs.set j u=m.cs) :
  Rn T (W.setCell ⟨b,r.length*3+j,none⟩ u) (.slice (some ⟨b,0,none⟩) (r.length+1) cap) (m :: r):=by
 have:=(World.ownsRow.stored h (r.length*3+j) u).1;rw [I0 r n m j u hj hm] at this;exact this
theorem LY (h:Rn T W (.slice (some ⟨b,0,none⟩) (r.length+1) cap) (n :: r)):Rn T W (.slice (some ⟨b,0,none⟩) r.length cap) r:=by
 refine ⟨by rw [nt,SO],?_⟩
 rcases h.2 with ⟨h1,_⟩|⟨g,cap',cur,h1,h2,h3,h4,h5,h6,h7⟩
 ·cases h1
 ·cases h1;refine .inr ⟨_,_,cur,rfl,h2,h3,by simp at h4;omega,h5,h6,?_⟩;have e:(n :: r).length*3=r.length*3+3:=by simp;omega
  rw [e] at h7;have:cur.toList.take (r.length*3)=(cur.toList.take (r.length*3+3)).take (r.length*3):=by rw [Uc];congr 1;omega
  rw [this,h7,SH,nu,Vj (by rw [nt,SO])]
abbrev bV (g:Nat):Value:=.pointer (some ⟨g,0,none⟩)
def SB (W:World) (g:Nat) (dn:Bool) (vn vw:Value) (m:Bool) (i:Int) (wr en pt:Bool):Prop:=W.heap[g]?=some (.cells #[.bool dn,vn,vw,.bool m,.int .i64 i,.bool wr,.bool en,.bool pt] 147 (0,0))
theorem SB.cells {W:World}{g:Nat}{dn:Bool}{vn vw:Value}{m:Bool}{i:Int}{wr en pt:Bool}(h:SB W g dn vn vw m i wr en pt) :
  W.cell? ⟨g,0,none⟩=some (.bool dn)/\W.cell? ⟨g,1,none⟩=some vn/\W.cell? ⟨g,2,none⟩=some vw/\W.cell? ⟨g,3,none⟩=some (.bool m)/\W.cell? ⟨g,4,none⟩=some (.int .i64 i)/\W.cell? ⟨g,5,none⟩=some (.bool wr)/\W.cell? ⟨g,6,none⟩=some (.bool en)/\W.cell? ⟨g,7,none⟩=some (.bool pt):=
 ⟨af h rfl,af h rfl,af h rfl,af h rfl,af h rfl,af h rfl,af h rfl,af h rfl⟩
theorem SB.frozen (h:SB W g dn vn vw m i wr en pt) (j:Nat):W.frozen? ⟨g,j,none⟩=false:=am h
theorem SB.kp {S:Nat->Prop}{W W':World}{g:Nat}{dn:Bool}{vn vw:Value}{m:Bool}{i:Int}{wr en pt:Bool}(h:SB W g dn vn vw m i wr en pt) (hk:Kp S W W') (hS:¬S g):SB W' g dn vn vw m i wr en pt:=hk.blk h hS
theorem SB.below (h:SB W g dn vn vw m i wr en pt) (hb:Below W.heap.size W W'):SB W' g dn vn vw m i wr en pt:=ag h hb
theorem SB.lt (h:SB W g dn vn vw m i wr en pt):g<W.heap.size:=aq h
abbrev tN:Nat:=208
structure SV (W:World) (g:Nat) (st:Sy) (vn vw:Value):Prop where
 sb:SB W g false vn vw st.mr.isSome (st.mr.getD 0:Nat) st.wr st.en st.pt
 rn:Rn tN W vn st.ns
 rd:Rd W vw st.ws
structure SS (S:Nat->Prop) (W:World) (g:Nat) (st:Sy):Prop where
 ex:∃vn vw,SV W g st vn vw/\(∀k,vn.ownBlock=some k->S k)/\(∀k,vw.ownBlock=some k->S k)
 sg:S g
 lt:∀k,S k->k<W.heap.size
def Mv (S:Nat->Prop) (g:Nat) (W W':World) (st:Sy):Prop:=(∃S',SS S' W' g st/\∀k,S' k->S k\/W.heap.size<=k)/\Kp S W W'/\W'.cell? ⟨g,1,none⟩=W.cell? ⟨g,1,none⟩
theorem SV.below (h:SV W g st vn vw) (hb:Below W.heap.size W W'):SV W' g st vn vw:=⟨h.sb.below hb,bp h.rn hb,fg h.rd hb⟩
theorem SV.kp {S:Nat->Prop}{W W':World}{g:Nat}{st:Sy}{vn vw:Value}(h:SV W g st vn vw) (hk:Kp S W W') (h0:¬S g) (h1:∀k,vn.ownBlock=some k->¬S k) (h2:∀k,vw.ownBlock=some k->¬S k):SV W' g st vn vw:=
 ⟨h.sb.kp hk h0,hk.row h.rn h1,yM h.rd hk h2⟩
theorem SS.below {S:Nat->Prop}(h:SS S W g st) (hb:Below W.heap.size W W'):SS S W' g st:=by
 obtain ⟨vn,vw,h1,h2⟩:=h.ex;exact ⟨⟨vn,vw,h1.below hb,h2⟩,h.sg,fun k hk=>Q1 (h.lt k hk) hb.size⟩
theorem SS.kp {S T:Nat->Prop}{W W':World}{g:Nat}{st:Sy}(h:SS S W g st) (hk:Kp T W W') (hT:∀k,S k->¬T k):SS S W' g st:=by
 obtain ⟨vn,vw,h1,h2,h3⟩:=h.ex;exact ⟨⟨vn,vw,h1.kp hk (hT _ h.sg) (fun k e=>hT k (h2 k e)) (fun k e=>hT k (h3 k e)),h2,h3⟩,h.sg,fun k hS=>Q1 (h.lt k hS) hk.size⟩
theorem Mv.mk' {S:Nat->Prop}{W W':World}{g:Nat}{st:Sy}{vn vw:Value}(hv:SV W' g st vn vw) (hs:S g) (h1:∀k,vn.ownBlock=some k->S k\/W.heap.size<=k) (h2:∀k,vw.ownBlock=some k->S k\/W.heap.size<=k) (hk:Kp S W W') (hc:W.cell? ⟨g,1,none⟩=some vn):Mv S g W W' st:=
 ⟨⟨fun k=>(S k\/W.heap.size<=k)/\k<W'.heap.size,⟨⟨vn,vw,hv,fun k e=>⟨h1 k e,gX hv.rn k e⟩,fun k e=>⟨h2 k e,gX hv.rd k e⟩⟩,⟨.inl hs,hv.sb.lt⟩,fun _ h=>h.2⟩,fun _ h=>h.1⟩,hk,hv.sb.cells.2.1.trans hc.symm⟩
theorem Mv.refl {S:Nat->Prop}{W:World}{g:Nat}{st:Sy}(h:SS S W g st):Mv S g W W st:=⟨⟨S,h,fun _ h=>.inl h⟩,Kp.refl _ _,rfl⟩
theorem Mv.quiet {S:Nat->Prop}(h:SS S W g st) (hb:Below W.heap.size W W'):Mv S g W W' st:=⟨⟨S,h.below hb,fun _ h=>.inl h⟩,Kp.of_below hb,hb.cell (h.lt g h.sg)⟩
structure WP (W W':World) (g:Nat) (st:Sy) (vn vw:Value) (l:List Dc):Prop where
 ex:∃vw',SV W' g { st with ws:=l } vn vw'/\Nb W vw vw'
 kp:Kp (fun k=>k=g\/vw.ownBlock=some k) W W'
theorem WP.mv {S:Nat->Prop}(h:WP W W' g st vn vw l) (hv:SV W g st vn vw) (hs:S g) (h1:∀k,vn.ownBlock=some k->S k) (h2:∀k,vw.ownBlock=some k->S k):Mv S g W W' { st with ws:=l }:=by
 obtain ⟨vw',a,b⟩:=h.ex;refine Mv.mk' a hs (fun k e=>.inl (h1 k e)) (fun k e=>?_) (h.kp.sub ?_) hv.sb.cells.2.1
 ·rcases b with b|⟨q,hq,hq2⟩
  ·exact .inl (h2 k (by rw [<-b];exact e))
  ·rw [hq] at e;cases e;exact .inr hq2
 ·rintro k (e|e)
  ·rw [e];exact hs
  ·exact h2 k e
theorem SV.ws {W1 w3:World}(h:SV W g st vn vw) (hb:Below W.heap.size W W1) (hg:Kp (fun k=>vw.ownBlock=some k) W1 w3) {l:List Dc}(hr:Rd w3 v' l) (hn:Nb W1 vw v') :
  (w3.cell? ⟨g,2,none⟩=some vw/\w3.frozen? ⟨g,2,none⟩=false)/\WP W (w3.setCell ⟨g,2,none⟩ v') g st vn vw l:=by
 have k1:=h.below hb;have hne:¬vw.ownBlock=some g:=aM k1.rd k1.sb (by decide);have h3:=k1.sb.kp hg hne;have n3:=hg.row k1.rn (fun k e1 e2=>ko k1.rn k1.rd (by decide) k e1 e2);have hk:Kp (fun k=>k=g\/vw.ownBlock=some k) W (w3.setCell ⟨g,2,none⟩ v'):=((Kp.of_below hb).step hg (fun k _ e=>.inr e)).step (Kp.set _ _ _ _) (fun k _ e=>.inl e);refine ⟨⟨af h3 rfl,h3.frozen 2⟩,⟨v',⟨aj h3 2 _,(Kp.set _ _ _ _).row n3 (fun k e1 e2=>aM n3 h3 (by decide) (by rw [e1,e2])),(Kp.set _ _ _ _).row hr (fun k e1 e2=>aM hr h3 (by decide) (by rw [e1,e2]))⟩,?_⟩,hk⟩
 rcases hn with hn|⟨q,hq,hq2⟩
 ·exact .inl hn
 ·exact .inr ⟨q,hq,QQ hb.size hq2⟩
theorem og (h:SV W g st vn vw) (d:Dc) (hl:st.ws.length<=1000000000) :
  Ra 161 #[bV g,.agg #[.int .u8 d.k,.string d.t,.int .i64 d.b,.int .i64 d.i,.bool d.e]] W fun r w'=>r=.returned (.tuple #[])/\WP W w' g st vn vw (st.ws++[d]):=by
 obtain ⟨L,hL⟩:∃L,st.ws=L:=⟨_,rfl⟩;have hE:=h.rd;rw [hL] at hE hl ⊢;obtain ⟨p,cap,rfl,_⟩:=bB hE;have HW:Hid (∀V,Below W.heap.size W V->Rd V (.slice p L.length cap) L):=fun V hb=>fg hE hb
 have HT:Hid (∀W1 w3 q cp,Below W.heap.size W W1->Rd w3 (.slice (some ⟨q,0,none⟩) (L.length+1) cp) (L++[d])->W1.grownBy w3 (Value.slice p L.length cap).ownBlock->((Value.slice p L.length cap).ownBlock=some q\/q=W1.heap.size)->(w3.cell? ⟨g,2,none⟩=some (.slice p L.length cap)/\w3.frozen? ⟨g,2,none⟩=false)/\WP W (w3.setCell ⟨g,2,none⟩ (.slice (some ⟨q,0,none⟩) (L.length+1) cp)) g st vn (.slice p L.length cap) (L++[d])):=
  fun W1 w3 q cp hb h1 h2 h3=>h.ws hb ((Kp.of_grown h2).sub (fun k e=>e.symm)) h1 (by rcases h3 with h3|h3;exact .inl h3.symm;exact .inr ⟨q,rfl,by omega⟩)
 obtain ⟨c0,c1,c2,c3,c4,c5,c6,c7⟩:=h.sb.cells;have hg:=h.sb.lt;clear h hE hL;obtain ⟨⟨k0,t,b0,i0,e0⟩,hd⟩:∃x,d=x:=⟨_,rfl⟩;subst hd
 dsimp only
 go_enter Tryz.func161,Tryz.ntmps161
 go_wp2_with fail
 obtain ⟨W1,e1⟩:∃W1,W.alloc (.cells #[.int .u8 k0,.string t,.int .i64 b0,.int .i64 i0,.bool e0] 71)=W1:=⟨_,rfl⟩;have hb:Below W.heap.size W W1:=by rw [<-e1];exact (hH _ _).alloc (gt _) _
 have hn:W1.heap[W.heap.size]?=some (.cells #[.int .u8 k0,.string t,.int .i64 b0,.int .i64 i0,.bool e0] 71):=by rw [<-e1];exact au _ _
 rw [e1];clear e1;have m0:W1.cell? ⟨W.heap.size,0,none⟩=_:=af hn rfl;have m1:W1.cell? ⟨W.heap.size,1,none⟩=_:=af hn rfl;have m2:W1.cell? ⟨W.heap.size,2,none⟩=_:=af hn rfl;have m3:W1.cell? ⟨W.heap.size,3,none⟩=_:=af hn rfl;have m4:W1.cell? ⟨W.heap.size,4,none⟩=_:=af hn rfl;have d4:W1.cell? ⟨g,2,none⟩=some (.slice p L.length cap):=(hb.cell hg).trans c2;have HB:Hid (∀o,Below W.heap.size W (W1.drew.alloc o)):=fun o=>(hb.drew).alloc hb.size _
 have hg1:g<W1.heap.size:=Q1 hg hb.size;clear hb hn c0 c1 c2 c3 c4 c5 c6 c7 hg
 go_region_law (refine De (by rfl) _ _ (by rfl) (.slice p L.length cap) L ⟨k0,t,b0,i0,e0⟩ (by rfl) (HW.out _ (HB.out _)) W1.heap.size 1 (by rfl) (au W1.drew _) hl ?_;intro q cp w3 hr3 hg3 hq3;obtain ⟨⟨x1,x2⟩,x3⟩:=HT.out _ w3 q cp (HB.out _) hr3 hg3 hq3;have HX:=ai x3;clear x3 hr3 hg3 hq3)
 all_goals (
  go_wp2_with fail
  go_end0
  exact ⟨rfl,HX.out⟩)
theorem fQ {n:Nat}(c1:W.cell? ⟨g,1,none⟩=some (.slice (some ⟨b,0,none⟩) (n+1) cap)) (hn:n<=1000000000) :
  Ra 117 #[bV g] W fun r w'=>r=.returned (.pointer (some ⟨b,n*3,none⟩))/\Below W.heap.size W w':=by
 have q1:IntKind.i64.wrap (n:Int)=n:=by rw [RA];omega
 have q2:(0:Int)<=n:=by omega
 have q3:(n:Int)<(n:Int)+1:=by omega
 have HB:Hid (Rc W W.drew):=(hH _ _).drew
 go_enter Tryz.func117,Tryz.ntmps117
 go_wp2_with fail
 go_region_law (fail)
 all_goals (
  go_wp2_with fail
  go_ret
  exact ⟨rfl,HB.out⟩)
theorem SV.nd {W:World}{g:Nat}{st:Sy}{vw:Value}{b cap:Nat}{n m:Nd}{r:List Nd}(e:st.ns=n :: r) (h:SV W g st (.slice (some ⟨b,0,none⟩) (r.length+1) cap) vw) (j:Nat) (u:Value) (hj:j<3) (hm:n.cs.set j u=m.cs) :
  SV (W.setCell ⟨b,r.length*3+j,none⟩ u) g { st with ns:=m :: r } (.slice (some ⟨b,0,none⟩) (r.length+1) cap) vw:=by
 have hn:Rn tN W (.slice (some ⟨b,0,none⟩) (r.length+1) cap) (n :: r):=by rw [<-e];exact h.rn
 have hne:¬g=b:=fun e2=>aM h.rn h.sb (by decide) (by rw [e2];rfl)
 refine ⟨h.sb.kp (Kp.set W b _ u) hne,LX hn j u hj hm,(Kp.set W b _ u).row h.rd (fun k e1 e2=>ko h.rd h.rn (by decide) k e1 (by rw [e2];rfl))⟩
theorem eI {S:Nat->Prop}(h:SS S W g st) (p:Pz) {i:Int}{e:Bool}(hp:p.d=dI i e/\p.n=1) (hns:st.ns≠[]) (hl:st.ws.length<=1000000000) (hn:st.ns.length<=1000000000) (hb:∀n∈st.ns,n.b<=1000000000) :
  Ra 122 #[bV g,.int .i64 i,.bool e] W fun r w'=>r=.returned (.tuple #[])/\Mv S g W w' (st.aw p):=by
 obtain ⟨vn,vw,hv,s1,s2⟩:=h.ex
 obtain ⟨n,r,en⟩:∃n r,st.ns=n :: r:=by
  cases hc:st.ns with
  |nil=>exact absurd hc hns
  |cons n r=>exact ⟨n,r,rfl⟩
 have hn1:=hv.rn;rw [en] at hn1;obtain ⟨b,cap,rfl,hc1,hc2⟩:=mX hn1;have hX:p≠.X:=fun e=>by rw [e] at hp;cases hp.2
 have eN:ia p st.ns=⟨n.k,n.b+1,n.s⟩ :: r:=by rw [en];simp only [ia];rw [Eq hX,hp.2]
 have eW:jB p st.ns=[dI i e]:=by unfold jB;rw [Eq (fun h=>hX h.1),hp.1]
 have HW:Hid (Ra 161 #[bV g,.agg #[.int .u8 6,.string ⟨#[]⟩,.int .i64 0,.int .i64 i,.bool e]] W fun rr w'=>rr=.returned (.tuple #[])/\WP W w' g st (.slice (some ⟨b,0,none⟩) (r.length+1) cap) vw (st.ws++[dI i e])):=og hv (dI i e) hl;have HI:Hid (∀V,V.cell? ⟨g,1,none⟩=some (.slice (some ⟨b,0,none⟩) (r.length+1) cap)->Ra 117 #[bV g] V fun r' w'=>r'=.returned (.pointer (some ⟨b,r.length*3,none⟩))/\Rc V w'):=fun V hV=>fQ hV (by rw [en] at hn;simp at hn;omega)
 have hnb:n.b<=1000000000:=hb n (by rw [en];exact QN);have q2:IntKind.i64.wrap ((n.b:Int)+1)=n.b+1:=by rw [RA];omega
 have hsg:=h.sg
 have HE:Hid (∀V1 w2,WP W V1 g st (.slice (some ⟨b,0,none⟩) (r.length+1) cap) vw (st.ws++[dI i e])->Rc V1 w2->(w2.cell? ⟨b,r.length*3+1,none⟩=some (.int .i64 n.b)/\w2.frozen? ⟨b,r.length*3+1,none⟩=false)/\Mv S g W (w2.setCell ⟨b,r.length*3+1,none⟩ (.int .i64 ((n.b:Int)+1))) (st.aw p)):=fun V1 w2 hp1 hb2=>by
  obtain ⟨vw',a1,a2⟩:=hp1.ex;have a3:=a1.below hb2;have a4:Rn tN w2 (.slice (some ⟨b,0,none⟩) (r.length+1) cap) (n :: r):=by have:=a3.rn;rw [show ({ st with ws:=st.ws++[dI i e] }:Sy).ns=n :: r from en] at this;exact this
  refine ⟨⟨(kq a4).2.1,T5 a4 _⟩,?_⟩;have a5:=SV.nd (n:=n) (m:=⟨n.k,n.b+1,n.s⟩) (show ({ st with ws:=st.ws++[dI i e] }:Sy).ns=n :: r from en) a3 1 (.int .i64 ((n.b:Int)+1)) (by omega) rfl;have e9:({ ({ st with ws:=st.ws++[dI i e] }:Sy) with ns:=⟨n.k,n.b+1,n.s⟩ :: r }:Sy)=st.aw p:=by unfold Sy.aw;rw [eN,eW]
  rw [e9] at a5;have hk:Kp S W (w2.setCell ⟨b,r.length*3+1,none⟩ (.int .i64 ((n.b:Int)+1))):=(((hp1.kp.sub (S:=S) (by rintro k (e|e);rw [e];exact hsg;exact s2 k e)).step (Kp.of_below (S:=fun _=>False) hb2) (fun _ _ h=>h.elim)).step (Kp.set _ _ _ _) (fun k _ e=>by rw [e];exact s1 b rfl));refine Mv.mk' a5 hsg (fun k e=>.inl (s1 k e)) (fun k e=>?_) hk hv.sb.cells.2.1
  rcases a2 with a2|⟨q,hq,hq2⟩
  ·exact .inl (s2 k (by rw [<-a2];exact e))
  ·rw [hq] at e;cases e;exact .inr hq2
 have HC:Hid (∀V1,WP W V1 g st (.slice (some ⟨b,0,none⟩) (r.length+1) cap) vw (st.ws++[dI i e])->V1.cell? ⟨g,1,none⟩=some (.slice (some ⟨b,0,none⟩) (r.length+1) cap)):=fun V1 hp1=>by
  obtain ⟨vw',a1,a2⟩:=hp1.ex;exact a1.sb.cells.2.1
 clear hv h hn1 s1 s2 eN eW hns hl hn hb hp hX hnb en
 go_enter Tryz.func122,Tryz.ntmps122
 go_wp2_with (first|(go_at_call 161;refine HW.out.mono ?_;rintro r1 w1 ⟨rfl,hp1⟩;have HP:=show Hid (WP W w1 g st (.slice (some ⟨b,0,none⟩) (r.length+1) cap) vw (st.ws++[dI i e])) from hp1;clear hp1)|(go_at_call 117;refine (HI.out _ (HC.out _ HP.out)).mono ?_;rintro r2 w2 ⟨rfl,hb2⟩;obtain ⟨⟨x1,x2⟩,x3⟩:=HE.out _ _ HP.out hb2;have HX:=ai x3;clear x3 hb2))
 go_end0
 exact ⟨rfl,HX.out⟩
end Go.Proofs.YtjiepkenkcgkhaaGreatDoor
