import Derived.Deep.RegionHeld3
import Derived.Deep.RegionWith
import Derived.WalkMore
import Derived.Laws.OwnMore
import Derived.Laws.AppendOwnNone
import Derived.Test.YtcjiapphbpiffaaGreatDoorM11
import Derived.Test.YtcjiapphbpiffaaGreatDoorM28
set_option linter.unusedVariables false
set_option linter.unusedSimpArgs false
set_option maxHeartbeats 1000000
set_option maxRecDepth 100000
namespace Go.Proofs.YtcjiapphbpiffaaGreatDoor
open Go.RowKit
open Lw (Dc bE rt cG dD fu iC)
inductive Pz|S|B0|B1|H|I (n:Nat)|J|X
deriving DecidableEq
def dS:Dc:=⟨2,bE,0,0,false⟩
def dB (n:Int):Dc:=⟨3,bE,n,0,false⟩
def dH:Dc:=⟨4,bE,0,0,false⟩
def dE:Dc:=⟨5,bE,0,0,false⟩
def dI (n:Int) (e:Bool):Dc:=⟨6,bE,0,n,e⟩
def dX:Dc:=⟨7,bE,0,0,false⟩
def dT (t:ByteArray):Dc:=⟨1,t,0,0,false⟩
def Pz.d:Pz->Dc
 |.S=>dS
 |.B0=>dB 0
 |.B1=>dB 1
 |.H=>dH
 |.I n=>dI n false
 |.J=>dI 2 true
 |.X=>dX
def Pz.n:Pz->Nat
 |.I _=>1
 |.J=>1
 |_=>0
structure Nd where
 k:Int
 b:Nat
 s:Bool
deriving DecidableEq
structure Sy where
 ns:List Nd
 ws:List Dc
 mr:Option Nat
 wr:Bool
 en:Bool
 pt:Bool
def sx:Sy:=⟨[],[],none,false,false,false⟩
def iw (p:Pz):List Nd->List Nd
 |[]=>[]
 |n :: r=>(if p=.X then { n with b:=n.b-1 } else { n with b:=n.b+p.n }) :: r
def jN (p:Pz) (ns:List Nd):List Dc:=if p=.X/\((ns.head?.map (·.b)).getD 0)=0 then [] else [p.d]
def Sy.aw (s:Sy) (p:Pz):Sy:={ s with ns:=iw p s.ns,ws:=s.ws++jN p s.ns }
def Sy.aws (s:Sy) (l:List Pz):Sy:=l.foldl Sy.aw s
inductive Fx|nothing|blank|break1|hard|fend|endBlank|endHard|in1|in2|in2Break0|in2Break1|even2Hard|blankIn3|blankIn4
deriving DecidableEq
def Fx.pz:Fx->List Pz
 |.nothing=>[]
 |.blank=>[.S]
 |.break1=>[.B1]
 |.hard=>[.H]
 |.fend=>[.X]
 |.endBlank=>[.X,.S]
 |.endHard=>[.X,.H]
 |.in1=>[.I 1]
 |.in2=>[.I 2]
 |.in2Break0=>[.I 2,.B0]
 |.in2Break1=>[.I 2,.B1]
 |.even2Hard=>[.J,.H]
 |.blankIn3=>[.S,.I 3]
 |.blankIn4=>[.S,.I 4]
structure Rw where
 ns:List Int
 t:List UInt8
 a:Fx
 b:Fx
deriving DecidableEq
def tab:List Rw:=[
 ⟨[1,0,0,0,0,0],[112,114,111,103,114,97,109],.nothing,.blank⟩,
 ⟨[1,12,10,0,0,0],[59],.nothing,.hard⟩,
 ⟨[2,20,0,0,0,0],[98,101,103,105,110],.nothing,.even2Hard⟩,
 ⟨[2,20,10,15,16,17],[101,110,100],.endHard,.nothing⟩,
 ⟨[3,0,0,0,0,0],[118,97,114],.nothing,.blankIn4⟩,
 ⟨[3,7,11,29,31,0],[44],.nothing,.break1⟩,
 ⟨[3,7,11,0,0,0],[58],.fend,.blank⟩,
 ⟨[3,0,0,0,0,0],[59],.nothing,.hard⟩,
 ⟨[4,0,0,0,0,0],[99,111,110,115,116],.nothing,.blank⟩,
 ⟨[5,0,0,0,0,0],[112,114,111,99],.nothing,.blank⟩,
 ⟨[4,0,0,0,0,0],[61],.blank,.in2Break1⟩,
 ⟨[4,0,0,0,0,0],[59],.fend,.hard⟩,
 ⟨[5,0,0,0,0,0],[58],.nothing,.blank⟩,
 ⟨[33,0,0,0,0,0],[59],.nothing,.even2Hard⟩,
 ⟨[5,0,0,0,0,0],[59],.fend,.hard⟩,
 ⟨[6,0,0,0,0,0],[40],.nothing,.in2Break0⟩,
 ⟨[6,0,0,0,0,0],[59],.nothing,.break1⟩,
 ⟨[6,27,31,0,0,0],[41],.fend,.nothing⟩,
 ⟨[9,0,0,0,0,0],[97,114,114,97,121],.nothing,.blank⟩,
 ⟨[9,0,0,0,0,0],[111,102],.blank,.blank⟩,
 ⟨[10,0,0,0,0,0],[114,101,99,111,114,100],.nothing,.even2Hard⟩,
 ⟨[14,0,0,0,0,0],[58,61],.blank,.break1⟩,
 ⟨[15,0,0,0,0,0],[105,102],.nothing,.blankIn3⟩,
 ⟨[15,0,0,0,0,0],[101,108,105,102],.endHard,.blankIn3⟩,
 ⟨[16,0,0,0,0,0],[119,104,105,108,101],.nothing,.blankIn3⟩,
 ⟨[15,0,0,0,0,0],[116,104,101,110],.endBlank,.even2Hard⟩,
 ⟨[15,0,0,0,0,0],[101,108,115,101],.endHard,.even2Hard⟩,
 ⟨[16,0,0,0,0,0],[100,111],.endBlank,.even2Hard⟩,
 ⟨[17,0,0,0,0,0],[102,111,114],.nothing,.blank⟩,
 ⟨[17,0,0,0,0,0],[58,61],.blank,.blank⟩,
 ⟨[17,0,0,0,0,0],[116,111],.blank,.blank⟩,
 ⟨[17,0,0,0,0,0],[100,111],.blank,.even2Hard⟩,
 ⟨[18,0,0,0,0,0],[114,101,112,101,97,116],.nothing,.even2Hard⟩,
 ⟨[18,0,0,0,0,0],[117,110,116,105,108],.endHard,.blankIn3⟩,
 ⟨[21,22,23,24,0,0],[],.blank,.break1⟩,
 ⟨[26,0,0,0,0,0],[110,111,116],.nothing,.blank⟩,
 ⟨[27,0,0,0,0,0],[40],.nothing,.in1⟩,
 ⟨[29,0,0,0,0,0],[91],.nothing,.in1⟩,
 ⟨[29,0,0,0,0,0],[93],.fend,.nothing⟩,
 ⟨[31,0,0,0,0,0],[40],.nothing,.in2⟩]
def Nd.is (n:Nd) (k:Int):Bool:=if k=33 then decide (n.k=5) && decide (n.b=0) else decide (n.k=k)
def Rw.fits (r:Rw) (n:Nd) (t:ByteArray):Bool:=(decide (r.t=[]) || decide (r.t=t.data.toList)) && r.ns.any n.is
def Nl:Rw:=⟨[0,0,0,0,0,0],[],.nothing,.nothing⟩
def aH (n:Nd) (t:Tv):Rw:=if t.k=2\/t.k=6 then (tab.find? (fun r=>r.fits n t.t)).getD Nl else Nl
def fA (k:Int):Bool:=decide (k=3\/k=4\/k=5\/k=11\/k=13\/k=14\/k=15\/k=16\/k=17\/k=18\/k=19\/k=20)
def Sy.exprIn (s:Sy):Sy:=match s.ns with
 |[]=>s
 |n :: r=>{ (if n.k=19 then s.aws [.S,.I 3] else if n.k=31/\n.s=false then s.aws [.B0] else s) with
   ns:={ k:=n.k,b:=(if n.k=19 then n.b+1 else n.b),s:=true } :: r }
def Sy.mark (s:Sy) (k:Int):Sy:=if fA k=true/\s.mr=none then { s with mr:=some s.ws.length } else s
def qL (k:Int):List Pz:=if k=21\/k=22\/k=23\/k=24 then [.I 0] else if k=14\/k=7\/k=11 then [.I 2] else []
def Sy.opens (s:Sy) (k:Int):Sy:=
 let s1:=(if k=21 then s.exprIn else s).mark k
 { s1 with ns:=⟨k,0,false⟩ :: s1.ns }.aws (qL k)
def Sy.leaves (s:Sy):Sy:=match s.ns with
 |[]=>s
 |n :: r=>{ s with ns:=r,ws:=s.ws++List.replicate n.b dX++(if n.k=1 then [dH] else []) }
def bj (d:Dc):Bool:=decide (d.k=6)
def bI (d:Dc):Bool:=decide (d.k=4)
def bU (d:Dc):Bool:=decide (d.k=2) || (decide (d.k=4) || decide (d=dB 1))
def Sy.emp (s:Sy) (f:Int):Sy:=match s.mr with
 |none=>s
 |some m=>if f<2\/s.wr=false\/(s.ws.take m).any bj=true then s else { s with ws:=s.ws.take m++dE :: s.ws.drop m }
def Sy.endl (s:Sy):Sy:=if s.en=true/\s.ws.any bI=false then { s with ws:=dH :: s.ws } else s
def Sy.part (s:Sy):Sy:=if s.pt=true/\s.ws.any bU=false then { s with ws:=s.ws++[dS] } else s
def Sy.ready (s:Sy) (a:Fx) (f:Int):Sy:=(((s.aws a.pz).emp f).endl).part
def Sy.after (s:Sy) (b:Fx):Sy:=Sy.aws ⟨s.ns,[],none,true,false,false⟩ b.pz
def Sy.leaf (s:Sy) (t:Tv):Sy × List Dc:=match s.ns with
 |[]=>(s,[])
 |n :: _=>((s.ready (aH n t).a t.f).after (aH n t).b,(s.ready (aH n t).a t.f).ws++[dT t.t])
def Sy.note (s:Sy) (t:Tv):Sy × List Dc:=
 let bg:=s.ws.takeWhile bj
 let rs:=s.ws.dropWhile bj
 if t.f=0/\s.wr=true then (⟨s.ns,rs,none,true,s.en || decide (t.k=7),s.pt || decide (t.k=8)⟩,bg++[dS,dT t.t])
 else (⟨s.ns,rs,none,true,true,s.pt⟩,bg++dH :: ((if 2<=t.f/\s.wr=true/\bg=[] then [dE] else [])++[dT t.t]))
def Sy.may (s:Sy) (e:Ev):Bool:=
 if e.k=1 then decide (1<=e.n) && decide (e.n<=32)
 else if e.k=3 then (match s.ns with|[]=>false|n :: _=>decide (n.k=e.n))
 else if e.k=2 then !s.ns.isEmpty && fu e.d.t
 else if e.k=4 then !s.ns.isEmpty && (fu e.d.t && decide (e.d.k=7\/e.d.k=8))
 else false
def Sy.step (s:Sy) (e:Ev):Sy × List Dc:=
 if e.k=1 then (s.opens e.n,[]) else if e.k=3 then (s.leaves,[]) else if e.k=2 then s.leaf e.d else s.note e.d
def dO (s:Sy) (e:Ev):Option (Sy × List Dc):=if s.may e=true then some (s.step e) else none
def iy (s:Sy):Option (List Dc):=if s.ns=[] then some s.endl.ws else none
def du:Sy->List Ev->Option (List Dc)
 |s,[]=>iy s
 |s,e :: r=>match dO s e with
  |none=>none
  |some (s',l)=>(du s' r).map (l++·)
theorem sa (s:Sy) (p:Pz):(s.aw p).ws=s.ws++jN p s.ns:=rfl
theorem cj (s:Sy) (p:Pz) (l:List Pz):s.aws (p :: l)=(s.aw p).aws l:=rfl
end Go.Proofs.YtcjiapphbpiffaaGreatDoor
namespace Go.Proofs.YtcjiapphbpiffaaGreatDoor
open Go.RowKit
variable {t:Tv}{n:Nd}{m:M}
def qH:Pz->Bool
 |.S=>true
 |.B1=>true
 |.H=>true
 |_=>false
def yK (p:Pz):Bool:=decide (p=.H)
def Pl (k:Int) (x:ByteArray):Tv:=⟨k,x,0,0,0,0⟩
def SO (n:Int) (b:Nat) (k:Int) (x:ByteArray):List Pz:=(aH ⟨n,b,false⟩ (Pl k x)).a.pz
def MN (n:Int) (b:Nat) (k:Int) (x:ByteArray):List Pz:=(aH ⟨n,b,false⟩ (Pl k x)).b.pz
def lP (n k:Int) (x:ByteArray):Bool:=(SO n 0 k x).any qH && (SO n 1 k x).any qH
def ye (n k:Int) (x:ByteArray):Bool:=(MN n 0 k x).any qH && (MN n 1 k x).any qH
def KS (n k:Int) (x:ByteArray):Bool:=(MN n 0 k x).any yK && (MN n 1 k x).any yK
theorem pf (n:Nd) (t:Tv):aH n t=aH ⟨n.k,0,false⟩ (Pl t.k t.t)\/aH n t=aH ⟨n.k,1,false⟩ (Pl t.k t.t):=by
 have C:∀b:Nat,(n.b=0↔b=0)->aH n t=aH ⟨n.k,b,false⟩ (Pl t.k t.t):=by
  intro b H
  have F:∀k,n.is k=Nd.is ⟨n.k,b,false⟩ k:=by
   intro k;unfold Nd.is
   split
   ·congr 1;exact UF.2 H
   ·rfl
  unfold aH
  have G:(fun r:Rw=>r.fits n t.t)=(fun r:Rw=>r.fits ⟨n.k,b,false⟩ (Pl t.k t.t).t):=by
   funext r
   unfold Rw.fits;have:n.is=Nd.is ⟨n.k,b,false⟩:=funext F;rw [this];rfl
  rw [G];rfl
 by_cases h:n.b=0
 ·exact .inl (C 0 (by omega))
 ·exact .inr (C 1 (by omega))
theorem JH (h:lP n.k t.k t.t=true):((aH n t).a.pz).any qH=true:=by
 simp only [lP,Tc] at h
 rcases pf n t with e|e <;> rw [e]
 ·exact h.1
 ·exact h.2
theorem JG (h:((aH n t).b.pz).any qH=false):ye n.k t.k t.t=false:=by
 unfold ye
 rcases pf n t with e|e <;> rw [e] at h
 ·rw [show (MN n.k 0 t.k t.t).any qH=false from h,Vr]
 ·rw [show (MN n.k 1 t.k t.t).any qH=false from h,Uz]
theorem KR {n:Nd}{t:Tv}(h:((aH n t).b.pz).any yK=false):KS n.k t.k t.t=false:=by
 unfold KS
 rcases pf n t with e|e <;> rw [e] at h
 ·rw [show (MN n.k 0 t.k t.t).any yK=false from h,Vr]
 ·rw [show (MN n.k 1 t.k t.t).any yK=false from h,Uz]
def cW:Cl where
 tE n k x:=!decide (k=6) && !ye n k x
 tB n k x:=decide (k=6) || lP n k x
 nE:=true
 nB:=false
 mE m:=match m with|.variables=>false|.constants=>false|.procedure=>false|.params=>false|.index=>false|.args=>false|_=>true
 mB _:=false
 dE d:=match d with|.detail=>true|_=>false
 dB d:=match d with|.declaration=>false|_=>true
 xB n m:=decide (n=19/\m=.expr)
def Ew:List (List UInt8):=[[60],[62],[58],[47],[46]]
def nD:List UInt8:=[61,46,47]
def cD:Cl where
 tE n k x:=decide (k=6) && (Ew.contains x.data.toList && !ye n k x)
 tB n k x:=!(decide (k=6) && (x.data.toList.head?.elim false nD.contains)) || lP n k x
 nE:=false
 nB:=true
 mE _:=false
 mB _:=false
 dE _:=false
 dB _:=false
 xB _ _:=false
def cN:Cl where
 tE n k x:=!KS n k x
 tB n k x:=true
 nE:=true
 nB:=true
 mE m:=match m with|.variables=>false|.constants=>false|.procedure=>false|_=>true
 mB m:=match m with|.variables=>false|.constants=>false|.procedure=>false|.member=>false|.statement=>false|.body=>false|.block=>false|_=>true
 dE d:=match d with|.declaration=>false|_=>true
 dB d:=match d with|.declaration=>false|_=>true
 xB _ m:=match m with|.expr=>true|.list=>true|_=>false
theorem QE {s:ByteArray}{l:List UInt8}(h:s.toList=l):s=⟨l.toArray⟩:=by
 apply uC
 rw [h,Va]
def Gw.ckB (c:Cl) (m:M):Gw->Bool
 |.ref=>true
 |.ex r=>[3,7,11,29,31,24,25,26].all (fun n=>!m.nod n || (tf c n true r && (c.mE m || tf c n false r)))
 |.op nd r=>tf c nd true r && (c.mE m || tf c nd false r)
theorem Qs {c:Cl}{g:Gw}(h:g.ckB c m=true) (G:∀r,g=.ex r->m=.typed\/m=.list\/m=.factor):g.ck c m:=by
 have e:∀{a b d:Bool},(a && (b || d))=true->a=true/\(b=false->d=true):=by intro a b d;cases a <;> cases b <;> cases d <;> simp
 cases g with
 |ref=>trivial
 |op nd r=>exact e h
 |ex r=>
  intro n F
  have C:n∈([3,7,11,29,31,24,25,26]:List Int):=by
   rcases G r rfl with rfl|rfl|rfl <;> simp only [M.nod,Tz] at F <;> simp <;> omega
  have:=(Vu.1 h) n C;rw [F] at this;exact e (by simpa using this)
def SJ:List Gw:=[Gw.op 13 [.fl (.wd 2 [⟨#[115,107,105,112]⟩])],Gw.op 15 [.fl (.wd 2 [⟨#[105,102]⟩]),.fl (.mt .expr),.fl (.wd 2 [⟨#[116,104,101,110]⟩]),.fl (.mt .body),.again (.row [.wd 2 [⟨#[101,108,105,102]⟩],.mt .expr,.wd 2 [⟨#[116,104,101,110]⟩],.mt .body]),.once (.row [.wd 2 [⟨#[101,108,115,101]⟩],.mt .body]),.fl (.wd 2 [⟨#[101,110,100]⟩])],Gw.op 16 [.fl (.wd 2 [⟨#[119,104,105,108,101]⟩]),.fl (.mt .expr),.fl (.wd 2 [⟨#[100,111]⟩]),.fl (.mt .body),.fl (.wd 2 [⟨#[101,110,100]⟩])],Gw.op 17 [.fl (.wd 2 [⟨#[102,111,114]⟩]),.fl (.nm),.fl (.wd 6 [⟨#[58,61]⟩]),.fl (.mt .expr),.fl (.wd 2 [⟨#[116,111]⟩]),.fl (.mt .expr),.fl (.wd 2 [⟨#[100,111]⟩]),.fl (.mt .body),.fl (.wd 2 [⟨#[101,110,100]⟩])],Gw.op 18 [.fl (.wd 2 [⟨#[114,101,112,101,97,116]⟩]),.fl (.mt .body),.fl (.wd 2 [⟨#[117,110,116,105,108]⟩]),.fl (.mt .expr)],Gw.op 19 [.fl (.wd 2 [⟨#[114,101,116,117,114,110]⟩]),.once (.ex .expr)],Gw.op 20 [.fl (.wd 2 [⟨#[98,101,103,105,110]⟩]),.fl (.mt .body),.fl (.wd 2 [⟨#[101,110,100]⟩])]]
theorem BH (c:Cl) (h:∀g∈SJ,g.ckB c .statement=true) (s:ByteArray):(co s).ckB c .statement=true:=by
 unfold co
 repeat' split
 all_goals first
  |rfl
  | (rename_i C;obtain rfl:=QE (eq_of_beq C);first|exact h _ (List.Mem.head _)|exact h _ (List.Mem.tail _ (List.Mem.head _))|exact h _ (List.Mem.tail _ (List.Mem.tail _ (List.Mem.head _)))|exact h _ (List.Mem.tail _ (List.Mem.tail _ (List.Mem.tail _ (List.Mem.head _))))|exact h _ (List.Mem.tail _ (List.Mem.tail _ (List.Mem.tail _ (List.Mem.tail _ (List.Mem.head _)))))|exact h _ (List.Mem.tail _ (List.Mem.tail _ (List.Mem.tail _ (List.Mem.tail _ (List.Mem.tail _ (List.Mem.head _))))))|exact h _ (List.Mem.tail _ (List.Mem.tail _ (List.Mem.tail _ (List.Mem.tail _ (List.Mem.tail _ (List.Mem.tail _ (List.Mem.head _))))))))
def Qk:List Gw:=[Gw.op 8 [.fl .nm],Gw.op 9 [.fl (.wd 2 [⟨#[97,114,114,97,121]⟩]),.fl (.wd 6 [⟨#[91]⟩]),.fl (.mt .expr),.fl (.wd 6 [⟨#[46,46]⟩]),.fl (.mt .expr),.fl (.wd 6 [⟨#[93]⟩]),.fl (.wd 2 [⟨#[111,102]⟩]),.fl (.mt .kind)],Gw.op 10 [.fl (.wd 2 [⟨#[114,101,99,111,114,100]⟩]),.fl (.mt .member),.again (.row [.wd 6 [⟨#[59]⟩],.mt .member]),.fl (.wd 2 [⟨#[101,110,100]⟩])],.ref]
def Sh:List Gw:=[Gw.op 25 [.fl (.wd 6 [⟨#[45]⟩]),.fl (.mt .factor)],Gw.op 26 [.fl (.wd 2 [⟨#[110,111,116]⟩]),.fl (.mt .factor)],Gw.op 27 [.fl (.wd 6 [⟨#[40]⟩]),.fl (.mt .expr),.fl (.wd 6 [⟨#[41]⟩])],Gw.op 32 [.fl (.cs)],Gw.ex [.fl (.mt .object)],.ref]
theorem Hj (c:Cl) 
  (H:∀m∈([.block,.variables,.constants,.procedure,.params,.param,.typed,.member,.body,.expr,.rel,.sum,.term,.object,.index,.selection,.args,.list]:List M),(M.row aB m).ckB c m=true)
  (I:∀g∈SJ,g.ckB c .statement=true) (J:(Gw.op 14 [.fl (.mt .object),.once (.row [.wd 6 [⟨#[58,61]⟩],.mt .expr])]).ckB c .statement=true)
  (G:∀g∈Qk,g.ckB c .kind=true) (F:∀g∈Sh,g.ckB c .factor=true)
  (O:∀d t m,Dk.pick t d=some m->c.mE m=true->c.dE d=true):c.Ok:=by
 refine ⟨fun t m=>Qs ?_ ?_,O⟩
 ·cases m with
  |kind=>
   simp only [M.row]
   repeat' split
   all_goals first|exact G _ (List.Mem.head _)|exact G _ (List.Mem.tail _ (List.Mem.head _))|exact G _ (List.Mem.tail _ (List.Mem.tail _ (List.Mem.head _)))|exact G _ (List.Mem.tail _ (List.Mem.tail _ (List.Mem.tail _ (List.Mem.head _))))
  |factor=>
   simp only [M.row]
   repeat' split
   all_goals first|exact F _ (List.Mem.head _)|exact F _ (List.Mem.tail _ (List.Mem.head _))|exact F _ (List.Mem.tail _ (List.Mem.tail _ (List.Mem.head _)))|exact F _ (List.Mem.tail _ (List.Mem.tail _ (List.Mem.tail _ (List.Mem.head _))))|exact F _ (List.Mem.tail _ (List.Mem.tail _ (List.Mem.tail _ (List.Mem.tail _ (List.Mem.head _)))))|exact F _ (List.Mem.tail _ (List.Mem.tail _ (List.Mem.tail _ (List.Mem.tail _ (List.Mem.tail _ (List.Mem.head _))))))
  |statement=>
   simp only [M.row]
   split
   ·exact J
   ·exact BH c I _
  |_=>exact H _ (by simp)
 ·intro r C;cases m with
  |kind=>exfalso;simp only [M.row] at C;(repeat' (split at C)) <;> cases C
  |statement=>exfalso;simp only [M.row,co] at C;(repeat' (split at C)) <;> cases C
  |typed=>simp
  |list=>simp
  |factor=>simp
  |_=>cases C
theorem rD (h:Dk.pick t .declaration=some m):m=.variables\/m=.constants\/m=.procedure:=by
 simp only [Dk.pick] at h
 split at h
 ·cases h;exact .inl rfl
 ·split at h
  ·cases h;exact .inr (.inl rfl)
  ·split at h
   ·cases h;exact .inr (.inr rfl)
   ·cases h
theorem MJ:cW.Ok:=Hj cW (by decide) (by decide) (by decide) (by decide) (by decide) (fun d t m h e=>by
 cases d with
 |detail=>rfl
 |declaration=>rcases rD h with rfl|rfl|rfl <;> cases e
 |bracket=>simp only [Dk.pick] at h;split at h <;> cases h;cases e)
theorem ML:cD.Ok:=Hj cD (by decide) (by decide) (by decide) (by decide) (by decide) (fun d t m h e=>by cases e)
theorem MK:cN.Ok:=Hj cN (by decide) (by decide) (by decide) (by decide) (by decide) (fun d t m h e=>by
 cases d with
 |declaration=>rcases rD h with rfl|rfl|rfl <;> cases e
 |_=>rfl)
theorem J5:ng cW (ci++[.lv 1])=true/\ng cD (ci++[.lv 1])=true/\ng cN (ci++[.lv 1])=true:=by decide
end Go.Proofs.YtcjiapphbpiffaaGreatDoor
namespace Go.Proofs.YtcjiapphbpiffaaGreatDoor
open Go.RowKit
open Lw (Dc bE rt cG dD fu iC bZ aX cy)
variable {W W':World}{g T b cap e sz:Nat}{vn vw v v':Value}{st:Sy}{l:List Dc}{n:Nd}{r:List Nd}{o:Oper}{a:Act}{dn m wr en pt:Bool}{i:Int}{xs:List Value}{rest:List Oper}
theorem gM (a b:List Dc):bZ (a++b)=bZ a++bZ b:=cz Dc.cs a b
abbrev Rd (W:World) (v:Value) (l:List Dc):Prop:=W.ownsRow 0 89 5 v l.length (bZ l)
theorem lS (W:World):Rd W (.slice none 0 0) []:=TU W 0 89 5
theorem Ag {S:Nat->Prop}(h:Rd W v l) (F:Kp S W W') (C:∀k,v.ownBlock=some k->¬S k):Rd W' v l:=F.row h C
theorem fx (h:Rd W v l) (C:Below W.heap.size W W'):Rd W' v l:=bv h C
theorem bG (h:Rd W v l):∃p cap,v=.slice p l.length cap/\l.length<=cap/\cap<=maxLen:=aK h
theorem ip {n:Nat}(h:W.ownsRow 0 e sz v n xs):∀k,v.ownBlock=some k->k<W.heap.size:=by
 intro k C
 rcases h.2 with ⟨rfl,_⟩|⟨b,cap,G,rfl,_,F,_⟩
 ·cases C
 ·simp only [Value.ownBlock,Tp] at C;subst C;exact au F
theorem kI {n H F n':Nat}{G:List Value}(h:W.ownsRow 0 e sz v n xs) (J:W.ownsRow 0 H F v' n' G) (O:e≠H):∀k,v.ownBlock=some k->v'.ownBlock≠some k:=by
 intro k Q C
 rcases J.2 with ⟨rfl,_⟩|⟨b,cap,S,rfl,_,M,_⟩
 ·cases C
 ·simp only [Value.ownBlock,Tp] at C;subst C;exact aN h M (fun I=>O I.symm) Q
theorem Tryz.info89:(Tryz.prog.info? 89).map (fun i=>(i.zero,i.size,i.bytes))=some (some (.agg #[.int .u8 0,.string ⟨#[]⟩,.int .i64 0,.int .i64 0,.bool false]),5,48):=by kernel_rfl
theorem Eu {I:Array Oper}{K:Act->World->Prop}{Q:Exit->Act->World->Prop}{E:Prop}(C:o.guard=none) (s x:Operand)
  (Z:o.op=.call { callee:=.builtin .append,args:=#[s,x],argTypes:=#[56,56] }) (v:Value) (l:List Dc) (d:Dc) (hs:a.eval s=v) (hr:Rd W v l)
  (g c:Nat) (hx:a.eval x=.slice (some ⟨g,0,none⟩) 1 c) (U:W.heap[g]?=some (.cells #[.int .u8 d.k,.string d.t,.int .i64 d.b,.int .i64 d.i,.bool d.e] 89 (0,0))) (hl:l.length<=1000000000)
  (h:∀q cap w',Rd w' (.slice (some ⟨q,0,none⟩) (l.length+1) cap) (l++[d])->W.grownBy w' v.ownBlock->(v.ownBlock=some q\/q=W.heap.size)->K (a.put o.dst (.slice (some ⟨q,0,none⟩) (l.length+1) cap)) w') :
  if Region.wanted o (yielded I a.tmps)=true then Oper.wp Tryz.prog o a W K Q else E:=by
 obtain ⟨i0,Y,F,G,H⟩:=T7 Tryz.info89;refine Vt W C s x 56 Z 0 89 i0 _ 5 48 TM Y F G H rfl (by decide) v _ _ hs hr ⟨g,0,none⟩ 1 c (bZ [d]) hx (by rw [aX];rfl) ?_ (cy [d]) (by omega) (by unfold maxLen;omega) (by omega) (SW _) _ rfl ?_
 ·intro j u J;refine TX U j u ?_;have e:bZ [d]=[.int .u8 d.k,.string d.t,.int .i64 d.b,.int .i64 d.i,.bool d.e]:=by simp [bZ,bB,Dc.cs]
  rw [e] at J
  simpa using J
 ·intro q cap w' M O S _;refine h q cap w' ?_ O S;unfold Rd;rw [Or,gM];exact M
theorem sd {G:Array Oper}{Q:Exit->Act->World->Prop}(H:o.guard=none) (s x:Operand)
  (Z:o.op=.call { callee:=.builtin .append,args:=#[s,x],argTypes:=#[56,56] }) (v:Value) (l C:List Dc) (hs:a.eval s=v) (hr:Rd W v l)
  (g c:Nat) (hx:a.eval x=.slice (some ⟨g,0,none⟩) C.length c) (U:W.heap[g]?=some (.cells (bZ C).toArray 89 (0,0))) (hl:l.length+C.length<=2000000000)
  (h:∀v' w',Rd w' v' (l++C)->W.grownBy w' v.ownBlock->Nb W v v'->wpList Tryz.prog G Q rest (a.put o.dst v') w'):wpList Tryz.prog G Q (o :: rest) a W:=by
 obtain ⟨i0,Y,I,J,M⟩:=T7 Tryz.info89;refine T2 (P:=Tryz.prog) (w:=W) H s x 56 Z 0 89 i0 _ 5 48 TM Y I J M rfl (by decide) v _ _ hs hr ⟨g,0,none⟩ C.length c (bZ C) hx (by rw [aX]) ?_ (cy C) (by unfold maxLen;omega) (by omega) (SW _) ?_
 ·intro j u hu;refine TX U j u ?_
  simpa using hu
 ·intro v' w' O S _ F;refine h v' w' ?_ S ?_
  ·unfold Rd;rw [Or,gM];exact O
  ·rcases F with F|F
   ·exact .inl F
   ·exact .inr ⟨_,F,gt _⟩
theorem Io {I:Array Oper}{Q:Exit->Act->World->Prop}(G:o.guard=none) (s x:Operand)
  (Z:o.op=.call { callee:=.builtin .append,args:=#[s,x],argTypes:=#[56,56] }) (v M:Value) (l C:List Dc) (hs:a.eval s=v) (J:Rd W v l)
  (hx:a.eval x=M) (H:Rd W M C) (hl:l.length+C.length<=1000000000000)
  (h:∀v' w',Rd w' v' (l++C)->Kp (fun k=>v.ownBlock=some k) W w'->Nb W v v'->wpList Tryz.prog I Q rest (a.put o.dst v') w'):wpList Tryz.prog I Q (o :: rest) a W:=by
 have hc:=fun g (hg:M.ownBlock=some g)=>Vd H hg
 obtain ⟨i0,Y,O,S,U⟩:=T7 Tryz.info89
 rcases H.2 with ⟨rfl,h0⟩|⟨g,cap,aa,rfl,_⟩
 ·obtain rfl:C=[]:=Tl h0;refine wpList_append_own_none (P:=Tryz.prog) (w:=W) G s x 56 Z 0 89 i0 5 TM Y v _ _ hs J hx ?_;exact h v W (by rw [TG];exact J) (Kp.refl _ _) (.inl rfl)
 ·refine T2 (P:=Tryz.prog) (w:=W) G s x 56 Z 0 89 i0 _ 5 48 TM Y O S U rfl (by decide) v _ _ hs J ⟨g,0,none⟩ C.length cap (bZ C) hx (aX C) (hc g rfl) (cy _) (by unfold maxLen;omega) (by omega) (SW _) ?_;intro v' w' h1 h2 _ F;refine h v' w' ?_ ((Kp.of_grown h2).sub (fun k e=>e.symm)) ?_
  ·unfold Rd;rw [Or,gM];exact h1
  ·rcases F with F|F
   ·exact .inl F
   ·exact .inr ⟨_,F,gt _⟩
def Nd.cs (n:Nd):List Value:=[.int .u8 n.k,.int .i64 n.b,.bool n.s]
theorem Nd.cs_len (n:Nd):n.cs.length=3:=rfl
theorem Nd.cs_one (n:Nd):∀u∈n.cs,u.oneCell'=true:=by
 intro u C;simp only [Nd.cs,Tt,UT,Xi] at C
 rcases C with rfl|rfl|rfl <;> rfl
def uR (l:List Nd):List Value:=bB Nd.cs l
theorem nT (l:List Nd):(uR l).length=l.length*3:=fC Nd.cs 3 Nd.cs_len l
theorem Kx (l:List Nd):∀u∈uR l,u.oneCell'=true:=by
 intro u C;obtain ⟨d,_,h⟩:=Ve.1 C;exact d.cs_one u h
theorem nW (a b:List Nd):uR (a++b)=uR a++uR b:=cz Nd.cs a b
abbrev Rn (T:Nat) (W:World) (v:Value) (l:List Nd):Prop:=W.ownsRow 0 T 3 v l.length (uR l.reverse)
theorem pF (r:List Nd) (n:Nd) (j:Nat) (v:Value) (h:n.cs[j]?=some v):(uR (n :: r).reverse)[r.length*3+j]?=some v:=by
 rw [UJ];exact aR Nd.cs 3 Nd.cs_len _ r.length j n v (by rw [Vp (by simp)];simp) h
theorem Kw (r:List Nd) (n m:Nd) (j:Nat) (v:Value) (H:j<3) (h:n.cs.set j v=m.cs):(uR (n :: r).reverse).set (r.length*3+j) v=uR (m :: r).reverse:=by
 rw [UJ,UJ,nW,nW];have G:(uR r.reverse).length=r.length*3:=by rw [nT,UQ]
 rw [List.set_append_right _ _ (by omega),G,VJ];have C:uR [n]=n.cs:=by simp [uR,bB]
 have F:uR [m]=m.cs:=by simp [uR,bB]
 rw [C,F,h]
theorem nI (h:Rn T W v (n :: r)):∃b cap,v=.slice (some ⟨b,0,none⟩) (r.length+1) cap/\cap<=maxLen/\r.length+1<=cap:=by
 rcases h.2 with ⟨_,C⟩|⟨b,cap,I,F,_,_,G,H,_⟩
 ·simp at C
 ·exact ⟨b,cap,F,H,G⟩
theorem kJ (h:Rn T W (.slice (some ⟨b,0,none⟩) (r.length+1) cap) (n :: r)) :
  W.cell? ⟨b,r.length*3,none⟩=some (.int .u8 n.k)/\W.cell? ⟨b,r.length*3+1,none⟩=some (.int .i64 n.b)/\W.cell? ⟨b,r.length*3+2,none⟩=some (.bool n.s):=by
 have C:∀(k:Nat) (u:Value),(uR (n :: r).reverse)[k]?=some u->W.cell? ⟨b,k,none⟩=some u:=fun k u F=>by
  have:=Vd h (g:=b) rfl k u F;rw [UA,Td] at this;exact this
 exact ⟨C _ _ (pF r n 0 _ rfl),C _ _ (pF r n 1 _ rfl),C _ _ (pF r n 2 _ rfl)⟩
theorem Nw {m:Nd}(h:Rn T W (.slice (some ⟨b,0,none⟩) (r.length+1) cap) (n :: r)) (j:Nat) (u:Value) (C:j<3) (F:n.cs.set j u=m.cs) :
  Rn T (W.setCell ⟨b,r.length*3+j,none⟩ u) (.slice (some ⟨b,0,none⟩) (r.length+1) cap) (m :: r):=by
 have:=(World.ownsRow.stored h (r.length*3+j) u).1;rw [Kw r n m j u C F] at this;exact this
theorem Nx (h:Rn T W (.slice (some ⟨b,0,none⟩) (r.length+1) cap) (n :: r)):Rn T W (.slice (some ⟨b,0,none⟩) r.length cap) r:=by
 refine ⟨by rw [nT,UQ],?_⟩
 rcases h.2 with ⟨F,_⟩|⟨g,cap',C,F,H,I,J,M,O,G⟩
 ·cases F
 ·cases F;refine .inr ⟨_,_,C,rfl,H,I,by simp at J;omega,M,O,?_⟩;have e:(n :: r).length*3=r.length*3+3:=by simp;omega
  rw [e] at G;have:C.toList.take (r.length*3)=(C.toList.take (r.length*3+3)).take (r.length*3):=by rw [VV];congr 1;omega
  rw [this,G,UJ,nW,Xe (by rw [nT,UQ])]
abbrev cd (g:Nat):Value:=.pointer (some ⟨g,0,none⟩)
def SB (W:World) (g:Nat) (dn:Bool) (vn vw:Value) (m:Bool) (i:Int) (wr en pt:Bool):Prop:=W.heap[g]?=some (.cells #[.bool dn,vn,vw,.bool m,.int .i64 i,.bool wr,.bool en,.bool pt] 156 (0,0))
theorem SB.cells {W:World}{g:Nat}{dn:Bool}{vn vw:Value}{m:Bool}{i:Int}{wr en pt:Bool}(h:SB W g dn vn vw m i wr en pt) :
  W.cell? ⟨g,0,none⟩=some (.bool dn)/\W.cell? ⟨g,1,none⟩=some vn/\W.cell? ⟨g,2,none⟩=some vw/\W.cell? ⟨g,3,none⟩=some (.bool m)/\W.cell? ⟨g,4,none⟩=some (.int .i64 i)/\W.cell? ⟨g,5,none⟩=some (.bool wr)/\W.cell? ⟨g,6,none⟩=some (.bool en)/\W.cell? ⟨g,7,none⟩=some (.bool pt):=
 ⟨af h rfl,af h rfl,af h rfl,af h rfl,af h rfl,af h rfl,af h rfl,af h rfl⟩
theorem SB.frozen (h:SB W g dn vn vw m i wr en pt) (j:Nat):W.frozen? ⟨g,j,none⟩=false:=am h
theorem SB.kp {S:Nat->Prop}{W W':World}{g:Nat}{dn:Bool}{vn vw:Value}{m:Bool}{i:Int}{wr en pt:Bool}(h:SB W g dn vn vw m i wr en pt) (F:Kp S W W') (C:¬S g):SB W' g dn vn vw m i wr en pt:=F.blk h C
theorem SB.below (h:SB W g dn vn vw m i wr en pt) (C:Below W.heap.size W W'):SB W' g dn vn vw m i wr en pt:=ag h C
theorem SB.lt (h:SB W g dn vn vw m i wr en pt):g<W.heap.size:=au h
abbrev tN:Nat:=216
structure SV (W:World) (g:Nat) (st:Sy) (vn vw:Value):Prop where
 sb:SB W g false vn vw st.mr.isSome (st.mr.getD 0:Nat) st.wr st.en st.pt
 rn:Rn tN W vn st.ns
 rd:Rd W vw st.ws
structure SS (S:Nat->Prop) (W:World) (g:Nat) (st:Sy):Prop where
 ex:∃vn vw,SV W g st vn vw/\(∀k,vn.ownBlock=some k->S k)/\(∀k,vw.ownBlock=some k->S k)
 sg:S g
 lt:∀k,S k->k<W.heap.size
def Mv (S:Nat->Prop) (g:Nat) (W W':World) (st:Sy):Prop:=(∃S',SS S' W' g st/\∀k,S' k->S k\/W.heap.size<=k)/\Kp S W W'/\W'.cell? ⟨g,1,none⟩=W.cell? ⟨g,1,none⟩
theorem SV.below (h:SV W g st vn vw) (C:Below W.heap.size W W'):SV W' g st vn vw:=⟨h.sb.below C,bv h.rn C,fx h.rd C⟩
theorem SV.kp {S:Nat->Prop}{W W':World}{g:Nat}{st:Sy}{vn vw:Value}(h:SV W g st vn vw) (C:Kp S W W') (F:¬S g) (G:∀k,vn.ownBlock=some k->¬S k) (H:∀k,vw.ownBlock=some k->¬S k):SV W' g st vn vw:=
 ⟨h.sb.kp C F,C.row h.rn G,Ag h.rd C H⟩
theorem SS.below {S:Nat->Prop}(h:SS S W g st) (C:Below W.heap.size W W'):SS S W' g st:=by
 obtain ⟨vn,vw,F,G⟩:=h.ex;exact ⟨⟨vn,vw,F.below C,G⟩,h.sg,fun k H=>Tn (h.lt k H) C.size⟩
theorem SS.kp {S T:Nat->Prop}{W W':World}{g:Nat}{st:Sy}(h:SS S W g st) (H:Kp T W W') (C:∀k,S k->¬T k):SS S W' g st:=by
 obtain ⟨vn,vw,I,F,G⟩:=h.ex;exact ⟨⟨vn,vw,I.kp H (C _ h.sg) (fun k e=>C k (F k e)) (fun k e=>C k (G k e)),F,G⟩,h.sg,fun k J=>Tn (h.lt k J) H.size⟩
theorem Mv.mk' {S:Nat->Prop}{W W':World}{g:Nat}{st:Sy}{vn vw:Value}(C:SV W' g st vn vw) (I:S g) (F:∀k,vn.ownBlock=some k->S k\/W.heap.size<=k) (G:∀k,vw.ownBlock=some k->S k\/W.heap.size<=k) (H:Kp S W W') (hc:W.cell? ⟨g,1,none⟩=some vn):Mv S g W W' st:=
 ⟨⟨fun k=>(S k\/W.heap.size<=k)/\k<W'.heap.size,⟨⟨vn,vw,C,fun k e=>⟨F k e,ip C.rn k e⟩,fun k e=>⟨G k e,ip C.rd k e⟩⟩,⟨.inl I,C.sb.lt⟩,fun _ h=>h.2⟩,fun _ h=>h.1⟩,H,C.sb.cells.2.1.trans hc.symm⟩
theorem Mv.refl {S:Nat->Prop}{W:World}{g:Nat}{st:Sy}(h:SS S W g st):Mv S g W W st:=⟨⟨S,h,fun _ h=>.inl h⟩,Kp.refl _ _,rfl⟩
theorem Mv.quiet {S:Nat->Prop}(h:SS S W g st) (C:Below W.heap.size W W'):Mv S g W W' st:=⟨⟨S,h.below C,fun _ h=>.inl h⟩,Kp.of_below C,C.cell (h.lt g h.sg)⟩
structure WP (W W':World) (g:Nat) (st:Sy) (vn vw:Value) (l:List Dc):Prop where
 ex:∃vw',SV W' g { st with ws:=l } vn vw'/\Nb W vw vw'
 kp:Kp (fun k=>k=g\/vw.ownBlock=some k) W W'
theorem WP.mv {S:Nat->Prop}(h:WP W W' g st vn vw l) (J:SV W g st vn vw) (G:S g) (H:∀k,vn.ownBlock=some k->S k) (F:∀k,vw.ownBlock=some k->S k):Mv S g W W' { st with ws:=l }:=by
 obtain ⟨M,a,b⟩:=h.ex;refine Mv.mk' a G (fun k e=>.inl (H k e)) (fun k e=>?_) (h.kp.sub ?_) J.sb.cells.2.1
 ·rcases b with b|⟨q,I,C⟩
  ·exact .inl (F k (by rw [<-b];exact e))
  ·rw [I] at e;cases e;exact .inr C
 ·rintro k (e|e)
  ·rw [e];exact G
  ·exact F k e
theorem SV.ws {W1 F:World}(h:SV W g st vn vw) (J:Below W.heap.size W W1) (M:Kp (fun k=>vw.ownBlock=some k) W1 F) {l:List Dc}(U:Rd F v' l) (O:Nb W1 vw v') :
  (F.cell? ⟨g,2,none⟩=some vw/\F.frozen? ⟨g,2,none⟩=false)/\WP W (F.setCell ⟨g,2,none⟩ v') g st vn vw l:=by
 have C:=h.below J;have Q:¬vw.ownBlock=some g:=aN C.rd C.sb (by decide);have I:=C.sb.kp M Q;have Y:=M.row C.rn (fun k G H=>kI C.rn C.rd (by decide) k G H);have Z:Kp (fun k=>k=g\/vw.ownBlock=some k) W (F.setCell ⟨g,2,none⟩ v'):=((Kp.of_below J).step M (fun k _ e=>.inr e)).step (Kp.set _ _ _ _) (fun k _ e=>.inl e);refine ⟨⟨af I rfl,I.frozen 2⟩,⟨v',⟨aj I 2 _,(Kp.set _ _ _ _).row Y (fun k G H=>aN Y I (by decide) (by rw [G,H])),(Kp.set _ _ _ _).row U (fun k G H=>aN U I (by decide) (by rw [G,H]))⟩,?_⟩,Z⟩
 rcases O with O|⟨q,hq,S⟩
 ·exact .inl O
 ·exact .inr ⟨q,hq,SY J.size S⟩
theorem oH (h:SV W g st vn vw) (d:Dc) (hl:st.ws.length<=1000000000) :
  Ta 165 #[cd g,.agg #[.int .u8 d.k,.string d.t,.int .i64 d.b,.int .i64 d.i,.bool d.e]] W fun r w'=>r=.returned (.tuple #[])/\WP W w' g st vn vw (st.ws++[d]):=by
 obtain ⟨L,Z⟩:∃L,st.ws=L:=⟨_,rfl⟩;have S:=h.rd;rw [Z] at S hl ⊢;obtain ⟨p,cap,rfl,_⟩:=bG S;have HW:Hid (∀V,Below W.heap.size W V->Rd V (.slice p L.length cap) L):=fun V C=>fx S C
 have HT:Hid (∀W1 F q H,Below W.heap.size W W1->Rd F (.slice (some ⟨q,0,none⟩) (L.length+1) H) (L++[d])->W1.grownBy F (Value.slice p L.length cap).ownBlock->((Value.slice p L.length cap).ownBlock=some q\/q=W1.heap.size)->(F.cell? ⟨g,2,none⟩=some (.slice p L.length cap)/\F.frozen? ⟨g,2,none⟩=false)/\WP W (F.setCell ⟨g,2,none⟩ (.slice (some ⟨q,0,none⟩) (L.length+1) H)) g st vn (.slice p L.length cap) (L++[d])):=
  fun W1 F q H C h1 h2 Q=>h.ws C ((Kp.of_grown h2).sub (fun k e=>e.symm)) h1 (by rcases Q with Q|Q;exact .inl Q.symm;exact .inr ⟨q,rfl,by omega⟩)
 obtain ⟨c0,c1,c2,c3,c4,c5,c6,c7⟩:=h.sb.cells;have U:=h.sb.lt;clear h S Z;obtain ⟨⟨k0,t,b0,i0,e0⟩,hd⟩:∃x,d=x:=⟨_,rfl⟩;subst hd
 dsimp only
 go_enter Tryz.func165,Tryz.ntmps165
 go_wp2_with fail
 obtain ⟨W1,O⟩:∃W1,W.alloc (.cells #[.int .u8 k0,.string t,.int .i64 b0,.int .i64 i0,.bool e0] 89)=W1:=⟨_,rfl⟩;have C:Below W.heap.size W W1:=by rw [<-O];exact (hH _ _).alloc (gt _) _
 have G:W1.heap[W.heap.size]?=some (.cells #[.int .u8 k0,.string t,.int .i64 b0,.int .i64 i0,.bool e0] 89):=by rw [<-O];exact aq _ _
 rw [O];clear O;have m0:W1.cell? ⟨W.heap.size,0,none⟩=_:=af G rfl;have m1:W1.cell? ⟨W.heap.size,1,none⟩=_:=af G rfl;have m2:W1.cell? ⟨W.heap.size,2,none⟩=_:=af G rfl;have m3:W1.cell? ⟨W.heap.size,3,none⟩=_:=af G rfl;have m4:W1.cell? ⟨W.heap.size,4,none⟩=_:=af G rfl;have d4:W1.cell? ⟨g,2,none⟩=some (.slice p L.length cap):=(C.cell U).trans c2;have Y:Hid (∀o,Below W.heap.size W (W1.drew.alloc o)):=fun o=>(C.drew).alloc C.size _
 have aa:g<W1.heap.size:=Tn U C.size;clear C G c0 c1 c2 c3 c4 c5 c6 c7 U
 go_region_law (refine Eu (by rfl) _ _ (by rfl) (.slice p L.length cap) L ⟨k0,t,b0,i0,e0⟩ (by rfl) (HW.out _ (Y.out _)) W1.heap.size 1 (by rfl) (aq W1.drew _) hl ?_;intro q H F M I J;obtain ⟨⟨x1,x2⟩,x3⟩:=HT.out _ F q H (Y.out _) M I J;have HX:=ai x3;clear x3 M I J)
 all_goals (
  go_wp2_with fail
  go_end0
  exact ⟨rfl,HX.out⟩)
theorem gh {n:Nat}(c1:W.cell? ⟨g,1,none⟩=some (.slice (some ⟨b,0,none⟩) (n+1) cap)) (F:n<=1000000000) :
  Ta 122 #[cd g] W fun r w'=>r=.returned (.pointer (some ⟨b,n*3,none⟩))/\Below W.heap.size W w':=by
 have G:IntKind.i64.wrap (n:Int)=n:=by rw [TJ];omega
 have H:(0:Int)<=n:=by omega
 have I:(n:Int)<(n:Int)+1:=by omega
 have C:Hid (Tb W W.drew):=(hH _ _).drew
 go_enter Tryz.func122,Tryz.ntmps122
 go_wp2_with fail
 go_region_law (fail)
 all_goals (
  go_wp2_with fail
  go_ret
  exact ⟨rfl,C.out⟩)
theorem SV.nd {W:World}{g:Nat}{st:Sy}{vw:Value}{b cap:Nat}{n m:Nd}{r:List Nd}(e:st.ns=n :: r) (h:SV W g st (.slice (some ⟨b,0,none⟩) (r.length+1) cap) vw) (j:Nat) (u:Value) (H:j<3) (I:n.cs.set j u=m.cs) :
  SV (W.setCell ⟨b,r.length*3+j,none⟩ u) g { st with ns:=m :: r } (.slice (some ⟨b,0,none⟩) (r.length+1) cap) vw:=by
 have J:Rn tN W (.slice (some ⟨b,0,none⟩) (r.length+1) cap) (n :: r):=by rw [<-e];exact h.rn
 have F:¬g=b:=fun C=>aN h.rn h.sb (by decide) (by rw [C];rfl)
 refine ⟨h.sb.kp (Kp.set W b _ u) F,Nw J j u H I,(Kp.set W b _ u).row h.rd (fun k G C=>kI h.rd h.rn (by decide) k G (by rw [C];rfl))⟩
theorem fg {S:Nat->Prop}(h:SS S W g st) (p:Pz) {i:Int}{e:Bool}(J:p.d=dI i e/\p.n=1) (M:st.ns≠[]) (hl:st.ws.length<=1000000000) (hn:st.ns.length<=1000000000) (hb:∀n∈st.ns,n.b<=1000000000) :
  Ta 127 #[cd g,.int .i64 i,.bool e] W fun r w'=>r=.returned (.tuple #[])/\Mv S g W w' (st.aw p):=by
 obtain ⟨vn,vw,U,s1,s2⟩:=h.ex
 obtain ⟨n,r,en⟩:∃n r,st.ns=n :: r:=by
  cases hc:st.ns with
  |nil=>exact absurd hc M
  |cons n r=>exact ⟨n,r,rfl⟩
 have I:=U.rn;rw [en] at I;obtain ⟨b,cap,rfl,ad,ae⟩:=nI I;have Z:p≠.X:=fun e=>by rw [e] at J;cases J.2
 have eN:iw p st.ns=⟨n.k,n.b+1,n.s⟩ :: r:=by rw [en];simp only [iw];rw [Eq Z,J.2]
 have eW:jN p st.ns=[dI i e]:=by unfold jN;rw [Eq (fun h=>Z h.1),J.1]
 have HW:Hid (Ta 165 #[cd g,.agg #[.int .u8 6,.string ⟨#[]⟩,.int .i64 0,.int .i64 i,.bool e]] W fun rr w'=>rr=.returned (.tuple #[])/\WP W w' g st (.slice (some ⟨b,0,none⟩) (r.length+1) cap) vw (st.ws++[dI i e])):=oH U (dI i e) hl;have HI:Hid (∀V,V.cell? ⟨g,1,none⟩=some (.slice (some ⟨b,0,none⟩) (r.length+1) cap)->Ta 122 #[cd g] V fun r' w'=>r'=.returned (.pointer (some ⟨b,r.length*3,none⟩))/\Tb V w'):=fun V hV=>gh hV (by rw [en] at hn;simp at hn;omega)
 have aa:n.b<=1000000000:=hb n (by rw [en];exact S4);have q2:IntKind.i64.wrap ((n.b:Int)+1)=n.b+1:=by rw [TJ];omega
 have O:=h.sg
 have HE:Hid (∀H G,WP W H g st (.slice (some ⟨b,0,none⟩) (r.length+1) cap) vw (st.ws++[dI i e])->Tb H G->(G.cell? ⟨b,r.length*3+1,none⟩=some (.int .i64 n.b)/\G.frozen? ⟨b,r.length*3+1,none⟩=false)/\Mv S g W (G.setCell ⟨b,r.length*3+1,none⟩ (.int .i64 ((n.b:Int)+1))) (st.aw p)):=fun H G C F=>by
  obtain ⟨ac,Y,Q⟩:=C.ex;have a3:=Y.below F;have a4:Rn tN G (.slice (some ⟨b,0,none⟩) (r.length+1) cap) (n :: r):=by have:=a3.rn;rw [show ({ st with ws:=st.ws++[dI i e] }:Sy).ns=n :: r from en] at this;exact this
  refine ⟨⟨(kJ a4).2.1,VN a4 _⟩,?_⟩;have a5:=SV.nd (n:=n) (m:=⟨n.k,n.b+1,n.s⟩) (show ({ st with ws:=st.ws++[dI i e] }:Sy).ns=n :: r from en) a3 1 (.int .i64 ((n.b:Int)+1)) (by omega) rfl;have e9:({ ({ st with ws:=st.ws++[dI i e] }:Sy) with ns:=⟨n.k,n.b+1,n.s⟩ :: r }:Sy)=st.aw p:=by unfold Sy.aw;rw [eN,eW]
  rw [e9] at a5;have hk:Kp S W (G.setCell ⟨b,r.length*3+1,none⟩ (.int .i64 ((n.b:Int)+1))):=(((C.kp.sub (S:=S) (by rintro k (e|e);rw [e];exact O;exact s2 k e)).step (Kp.of_below (S:=fun _=>False) F) (fun _ _ h=>h.elim)).step (Kp.set _ _ _ _) (fun k _ e=>by rw [e];exact s1 b rfl));refine Mv.mk' a5 O (fun k e=>.inl (s1 k e)) (fun k e=>?_) hk U.sb.cells.2.1
  rcases Q with Q|⟨q,hq,ab⟩
  ·exact .inl (s2 k (by rw [<-Q];exact e))
  ·rw [hq] at e;cases e;exact .inr ab
 have HC:Hid (∀H,WP W H g st (.slice (some ⟨b,0,none⟩) (r.length+1) cap) vw (st.ws++[dI i e])->H.cell? ⟨g,1,none⟩=some (.slice (some ⟨b,0,none⟩) (r.length+1) cap)):=fun H C=>by
  obtain ⟨ac,Y,Q⟩:=C.ex;exact Y.sb.cells.2.1
 clear U h I s1 s2 eN eW M hl hn hb J Z aa en
 go_enter Tryz.func127,Tryz.ntmps127
 go_wp2_with (first|(go_at_call 165;refine HW.out.mono ?_;rintro r1 w1 ⟨rfl,C⟩;have HP:=show Hid (WP W w1 g st (.slice (some ⟨b,0,none⟩) (r.length+1) cap) vw (st.ws++[dI i e])) from C;clear C)|(go_at_call 122;refine (HI.out _ (HC.out _ HP.out)).mono ?_;rintro r2 G ⟨rfl,F⟩;obtain ⟨⟨x1,x2⟩,x3⟩:=HE.out _ _ HP.out F;have HX:=ai x3;clear x3 F))
 go_end0
 exact ⟨rfl,HX.out⟩
end Go.Proofs.YtcjiapphbpiffaaGreatDoor
