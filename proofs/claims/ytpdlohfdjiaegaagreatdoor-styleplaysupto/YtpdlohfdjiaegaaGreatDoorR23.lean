import Derived.ArgAppend
import Derived.Test.YtpdlohfdjiaegaaGreatDoorR22
set_option linter.unusedVariables false
set_option linter.unusedSimpArgs false
namespace Go.Proofs.YtpdlohfdjiaegaaGreatDoor
open Go.RowKit
open Lw (Dc bE rt frm dep rtT rtN dcs au aH)
variable {W:World}{l:List Dc}{v:Value}{d:Dc}{o:Oper}{a:Act}{g n:Nat}{T:TypeId}
abbrev tD:Nat:=57
def Rof (W:World) (v:Value) (l:List Dc):Prop:=(v=.slice none 0 0/\l=[])\/∃b o cap cur,v=.slice (some ⟨b,o,none⟩) l.length cap/\W.heap[b]?=some (.cells cur tD (0,0))/\l.length<=cap/\cap<=maxLen/\o+cap*5<=cur.size/\(cur.toList.drop o).take (l.length*5)=dcs l
theorem fj (W:World):Rof W (.slice none 0 0) []:=.inl ⟨rfl,rfl⟩
theorem nS (h:Rd W v l):Rof W v l:=by
 rcases h.2 with ⟨h1,h2⟩|⟨g,cap,cur,h1,_,h3,h4,h5,h6,h7⟩
 ·exact .inl ⟨h1,zI h2⟩
 ·exact .inr ⟨g,0,cap,cur,h1,h3,h4,h5,by rw [h6];omega,by rw [BI];exact h7⟩
theorem Rof.kp {S:Nat->Prop}{W W':World}{v:Value}{l:List Dc}(h:Rof W v l) (hk:Kp S W W') (hS:∀k,v.ownBlock=some k->¬S k):Rof W' v l:=by
 rcases h with h|⟨b,o,cap,cur,h1,h2,h3⟩
 ·exact .inl h
 ·exact .inr ⟨b,o,cap,cur,h1,hk.blk h2 (hS b (by rw [h1];rfl)),h3⟩
theorem Rof.below {W':World}(h:Rof W v l) (hb:Below W.heap.size W W'):Rof W' v l:=h.kp (Kp.of_below (S:=fun _=>False) hb) (fun _ _ h=>h)
theorem Rof.shape (h:Rof W v l):∃p cap,v=.slice p l.length cap/\l.length<=cap/\cap<=maxLen:=by
 rcases h with ⟨h1,h2⟩|⟨b,o,cap,cur,h1,h2,h3,h4,_⟩
 ·exact ⟨none,0,by rw [h1,h2];rfl,by rw [h2];exact eq _,zx _⟩
 ·exact ⟨_,cap,h1,h3,h4⟩
theorem Rof.lt (h:Rof W v l):∀k,v.ownBlock=some k->k<W.heap.size:=by
 intro k hk
 rcases h with ⟨h1,h2⟩|⟨b,o,cap,cur,h1,h2,_⟩
 ·rw [h1] at hk;cases hk
 ·rw [h1] at hk;simp only [Value.ownBlock,zL] at hk;subst hk;exact ah h2
theorem Rof.ne {cs:Array Value}{f:Nat × Nat}(h:Rof W v l) (hg:W.heap[g]?=some (.cells cs T f)) (hT:T≠tD):v.ownBlock≠some g:=by
 intro hk
 rcases h with ⟨h1,h2⟩|⟨b,o,cap,cur,h1,h2,_⟩
 ·rw [h1] at hk;cases hk
 ·rw [h1] at hk;simp only [Value.ownBlock,zL] at hk;subst hk;rw [hg] at h2;injection h2 with h4
  injection h4 with _ h5
  exact hT h5
theorem iE {e sz:Nat}{v':Value}{xs:List Value}(h:W.ownsRow 0 e sz v n xs) (h':Rof W v' l) (he:e≠tD):∀k,v.ownBlock=some k->v'.ownBlock≠some k:=by
 intro k hk hk'
 rcases h.2 with ⟨rfl,_⟩|⟨b,cap,cur,rfl,_,h3,_⟩
 ·cases hk
 ·simp only [Value.ownBlock,zL] at hk;subst hk;exact h'.ne h3 he hk'
theorem Rof.cells {W:World}{b o n cap:Nat}{l:List Dc}(h:Rof W (.slice (some ⟨b,o,none⟩) n cap) l):∀j u,(dcs l)[j]?=some u->W.cell? ⟨b,o+j,none⟩=some u:=by
 intro j u hu
 rcases h with ⟨h1,h2⟩|⟨b',o',cap',cur,h1,h2,h3,h4,h5,h6⟩
 ·cases h1
 ·cases h1;refine aa h2 ?_;rw [<-h6,Ag] at hu
  split at hu
  ·rw [Aj] at hu;simpa using hu
  ·cases hu
theorem Rof.cell5 {W:World}{b o n cap:Nat}{l:List Dc}(h:Rof W (.slice (some ⟨b,o,none⟩) n cap) l) {j:Nat}{d:Dc}(hj:l[j]?=some d) :
  W.cell? ⟨b,o+j*5,none⟩=some (.int .u8 d.k)/\W.cell? ⟨b,o+j*5+1,none⟩=some (.string d.t)/\W.cell? ⟨b,o+j*5+2,none⟩=some (.int .i64 d.b)/\W.cell? ⟨b,o+j*5+3,none⟩=some (.int .i64 d.i)/\W.cell? ⟨b,o+j*5+4,none⟩=some (.bool d.e):=by
 refine ⟨?_,?_,?_,?_,?_⟩
 ·exact h.cells _ _ (aD Dc.cs 5 Dc.cs_len l j 0 d _ hj rfl)
 ·exact h.cells _ _ (aD Dc.cs 5 Dc.cs_len l j 1 d _ hj rfl)
 ·exact h.cells _ _ (aD Dc.cs 5 Dc.cs_len l j 2 d _ hj rfl)
 ·exact h.cells _ _ (aD Dc.cs 5 Dc.cs_len l j 3 d _ hj rfl)
 ·exact h.cells _ _ (aD Dc.cs 5 Dc.cs_len l j 4 d _ hj rfl)
theorem Rof.has (h:Rof W v (d :: l)):∃b o cap,v=.slice (some ⟨b,o,none⟩) (l.length+1) cap:=by
 rcases h with ⟨h1,h2⟩|⟨b,o,cap,cur,h1,_⟩
 ·cases h2
 ·exact ⟨b,o,cap,h1⟩
theorem Rof.tail {b o cap:Nat}(h:Rof W (.slice (some ⟨b,o,none⟩) n cap) (d :: l)):n=l.length+1/\l.length+1<=cap/\cap<=maxLen/\Rof W (.slice (some ⟨b,o+5,none⟩) l.length (cap-1)) l/\(cap=1->Rof W (.slice (some ⟨b,0,none⟩) l.length 0) l):=by
 rcases h with ⟨h1,h2⟩|⟨b',o',cap',cur,h1,h2,h3,h4,h5,h6⟩
 ·cases h2
 ·cases h1;rw [List.length_cons] at h3 h6 ⊢;have hd:dcs (d :: l)=d.cs++dcs l:=rfl;refine ⟨rfl,h3,h4,.inr ⟨b,o+5,cap-1,cur,rfl,h2,by omega,by omega,by omega,?_⟩,fun e=>?_⟩
  ·have:(cur.toList.drop (o+5)).take (l.length*5)=((cur.toList.drop o).take ((l.length+1)*5)).drop 5:=by
    rw [List.drop_take,Do]
    congr 1
    omega
   rw [this,h6,hd,List.drop_left' (Dc.cs_len d)]
  ·have hl:l=[]:=zI (by omega);subst hl;exact .inr ⟨b,0,0,cur,rfl,h2,eq _,zx _,by omega,by simp [dcs,aN]⟩
theorem fC :∀(vs:List Value) (b o:Nat) (w:World) (cur:Array Value),w.heap[b]?=some (.cells cur T (0,0))->o+vs.length<=cur.size->∃cur':Array Value,(w.setCells b o vs).heap[b]?=some (.cells cur' T (0,0))/\cur'.size=cur.size/\cur'.toList=cur.toList.take o++vs++cur.toList.drop (o+vs.length)
 |[],b,o,w,cur,h,hl=>⟨cur,h,rfl,by simp⟩
 |v :: r,b,o,w,cur,h,hl=>by
  rw [List.length_cons] at hl;obtain ⟨cur',a1,a2,a3⟩:=fC r b (o+1) (w.setCell ⟨b,o,none⟩ v) (cur.setIfInBounds o v) (af h o v) (by rw [Array.size_setIfInBounds];omega);refine ⟨cur',a1,by rw [a2,Array.size_setIfInBounds],?_⟩;have hlen:cur.toList.length=cur.size:=rfl;rw [a3,Array.toList_setIfInBounds,List.length_cons];rw [List.take_set,List.drop_set_of_lt (by omega)]
  have h1:(cur.toList.take (o+1)).set o v=cur.toList.take o++[v]:=by
   rw [AX (by omega),CF _ _ (by rw [zH];omega)];rw [zH,BW (by omega),Nat.sub_self];rfl
  rw [h1,show o+1+r.length=o+(r.length+1) by omega];simp
theorem gC (b:Nat):∀(vs:List Value) (o:Nat) (w:World),Kp (fun k=>k=b) w (w.setCells b o vs)
 |[],_,w=>Kp.refl _ _
 |v :: r,o,w=>(Kp.set w b o v).trans (gC b r (o+1) _)
theorem wJ (ty:TypeId) {v:Value}{l:List Dc}(ds:List Dc) (hr:Rof W v l) (ad:Addr) (c:Nat) (hn:∀j u,(dcs ds)[j]?=some u->W.cell? (ad.add j)=some u) (hd:0<ds.length) (hl:l.length+ds.length<=2000000000) :
  ∃q o' c' w',(Builtin.append_ #[46,46] ty #[v,.slice (some ad) ds.length c]).run Tryz.prog W=.ok (.slice (some ⟨q,o',none⟩) (l.length+ds.length) c') w'/\Rof w' (.slice (some ⟨q,o',none⟩) (l.length+ds.length) c') (l++ds)/\Kp (fun k=>v.ownBlock=some k) W w'/\Nb W v (.slice (some ⟨q,o',none⟩) (l.length+ds.length) c'):=by
 obtain ⟨i0,hi,hz0,hz1,hz2⟩:=Az Tryz.info57
 rcases hr with ⟨h1,h2⟩|⟨b,of,cap,cur,h1,h2,h3,h4,h5,h6⟩
 ·subst h1 h2;have hr0:Rd W (.slice none 0 0) []:=fm W;obtain ⟨g,cap,w',r1,r2,r3,r4,_⟩:=run_append_lies (P:=Tryz.prog) W 46 ty 0 57 i0 _ 5 48 zU hi hz0 hz1 hz2 rfl (by decide) _ _ _ hr0 ad ds.length c (dcs ds) (by rw [au]) hn (aH ds) hd (by unfold maxLen;simp at hl ⊢;omega) (by simp at hl ⊢;omega) (zx _) _ rfl;have r2':Rd w' (.slice (some ⟨g,0,none⟩) (([]:List Dc).length+ds.length) cap) ([]++ds):=by unfold Rd;rw [zq,cz];exact r2
  refine ⟨g,0,cap,w',r1,nS r2',(Kp.of_grown r3).sub (fun k e=>e.symm),?_⟩
  rcases r4 with r4|r4
  ·cases r4
  ·exact .inr ⟨g,rfl,by omega⟩
 ·subst h1;have hcl:∀j u,(dcs l)[j]?=some u->W.cell? ⟨b,of+j,none⟩=some u:=Rof.cells (cap:=cap) (n:=l.length) (.inr ⟨b,of,cap,cur,rfl,h2,h3,h4,h5,h6⟩)
  by_cases hroom:l.length+ds.length<=cap
  ·have hrun:=run_append_room_cells (P:=Tryz.prog) W 46 ty 57 i0 zU hi b of l.length cap ad ds.length c (dcs ds) (by rw [au,hz1]) hn (aH ds) hroom
    (fun j hj=>by
     rw [au] at hj;have:of+l.length*5+j<cur.size:=by omega
     rw [hz1,aa h2 (zY this)];rfl)
    (fun j hj=>aj h2)
   rw [hz1] at hrun;obtain ⟨cur',c1,c2,c3⟩:=fC (dcs ds) b (of+l.length*5) W cur h2 (by rw [au];omega);have hlen:cur.toList.length=cur.size:=rfl;refine ⟨b,of,cap,_,hrun,.inr ⟨b,of,cap,cur',by rw [zq],c1,by rw [zq];exact hroom,h4,by rw [c2];exact h5,?_⟩,(gC b _ _ _).sub (fun k e=>by rw [e];rfl),.inl rfl⟩;rw [c3,cz,zq,zJ,B5,zH,BW (by omega)]
   have e1:(cur.toList.take (of+l.length*5)).drop of=dcs l:=by
    rw [List.drop_take,BE,h6]
   rw [e1,show of-(of+l.length*5)=0 by omega,BI];rw [<-zJ,C6 (by rw [zq,au,au];omega)]
  ·obtain ⟨v',w',hrun,a1,a2⟩:=run_append_arg_grows (P:=Tryz.prog) W 46 ty 57 i0 _ 5 48 zU hi hz0 hz1 hz2 rfl (by decide) ⟨b,of,none⟩ l.length cap (dcs l) (by rw [au]) (fun j u hu=>by rw [AM];exact hcl j u hu) ad ds.length c (dcs ds) (by rw [au]) hn (by omega) (by unfold maxLen;omega) (by omega)
   rcases a1.2 with ⟨e1,e2⟩|⟨g,cap',cur',e1,e2,_⟩
   ·omega
   ·subst e1
    have a1':Rd w' (.slice (some ⟨g,0,none⟩) (l.length+ds.length) cap') (l++ds):=by
     unfold Rd;rw [zq,cz];exact ⟨a1.1,a1.2.imp id fun ⟨g,cap,cur,h1,h2,h3⟩=>⟨g,cap,cur,h1,zx _,h3⟩⟩
    exact ⟨g,0,cap',w',hrun,nS a1',(Kp.of_grown a2).sub (fun k e=>by cases e),.inr ⟨g,rfl,e2⟩⟩
theorem yz {K:Act->World->Prop}{Q:Exit->Act->World->Prop}(s x:Operand)
  (ho:o.op=.call { callee:=.builtin .append,args:=#[s,x],argTypes:=#[46,46] }) (v:Value) (l ds:List Dc) (hs:a.eval s=v) (hr:Rof W v l)
  (ad:Addr) (n c:Nat) (hx:a.eval x=.slice (some ad) n c) (en:n=ds.length) (hn:∀j u,(dcs ds)[j]?=some u->W.cell? (ad.add j)=some u) (hd:0<ds.length) (hl:l.length+ds.length<=2000000000)
  (h:∀q o' c' w',Rof w' (.slice (some ⟨q,o',none⟩) (l.length+n) c') (l++ds)->Kp (fun k=>v.ownBlock=some k) W w'->Nb W v (.slice (some ⟨q,o',none⟩) (l.length+n) c')->K (a.put o.dst (.slice (some ⟨q,o',none⟩) (l.length+n) c')) w'):o.wp Tryz.prog a W K Q:=by
 subst en;obtain ⟨q,o',c',w',hrun,r1,r2,r3⟩:=wJ o.type ds hr ad c hn hd hl;unfold Oper.wp execOp;simp only [ho,resolve,invoke,builtin,DL,DN,Cu,CO,Bj,Cg,hs,hx,hrun];exact h q o' c' w' r1 r2 r3
theorem cO {ops:Array Oper}{rest:List Oper}{Q:Exit->Act->World->Prop}(hgd:o.guard=none) (s x:Operand)
  (ho:o.op=.call { callee:=.builtin .append,args:=#[s,x],argTypes:=#[46,46] }) (v:Value) (l ds:List Dc) (hs:a.eval s=v) (hr:Rof W v l)
  (ad:Addr) (n c:Nat) (hx:a.eval x=.slice (some ad) n c) (en:n=ds.length) (hn:∀j u,(dcs ds)[j]?=some u->W.cell? (ad.add j)=some u) (hd:0<ds.length) (hl:l.length+ds.length<=2000000000)
  (h:∀q o' c' w',Rof w' (.slice (some ⟨q,o',none⟩) (l.length+n) c') (l++ds)->Kp (fun k=>v.ownBlock=some k) W w'->Nb W v (.slice (some ⟨q,o',none⟩) (l.length+n) c')->wpList Tryz.prog ops Q rest (a.put o.dst (.slice (some ⟨q,o',none⟩) (l.length+n) c')) w'):wpList Tryz.prog ops Q (o :: rest) a W:=
 DK hgd fun _ hK=>yz s x ho v l ds hs hr ad n c hx en hn hd hl fun q o' c' w' h2 h3 h4=>hK _ _ (h q o' c' w' h2 h3 h4)
theorem cP {ops:Array Oper}{K:Act->World->Prop}{Q:Exit->Act->World->Prop}{E:Prop}(hgd:o.guard=none) (s x:Operand)
  (ho:o.op=.call { callee:=.builtin .append,args:=#[s,x],argTypes:=#[46,46] }) (v:Value) (l ds:List Dc) (hs:a.eval s=v) (hr:Rof W v l)
  (ad:Addr) (n c:Nat) (hx:a.eval x=.slice (some ad) n c) (en:n=ds.length) (hn:∀j u,(dcs ds)[j]?=some u->W.cell? (ad.add j)=some u) (hd:0<ds.length) (hl:l.length+ds.length<=2000000000)
  (h:∀q o' c' w',Rof w' (.slice (some ⟨q,o',none⟩) (l.length+n) c') (l++ds)->Kp (fun k=>v.ownBlock=some k) W w'->Nb W v (.slice (some ⟨q,o',none⟩) (l.length+n) c')->K (a.put o.dst (.slice (some ⟨q,o',none⟩) (l.length+n) c')) w') :
  if Region.wanted o (yielded ops a.tmps)=true then Oper.wp Tryz.prog o a W K Q else E:=by
 have hw:Region.wanted o (yielded ops a.tmps)=true:=by simp [Region.wanted,hgd]
 rw [zw hw];exact yz s x ho v l ds hs hr ad n c hx en hn hd hl h
theorem aT (hg:W.heap[g]?=some (.cells #[.int .u8 d.k,.string d.t,.int .i64 d.b,.int .i64 d.i,.bool d.e] 57 (0,0))):∀j u,(dcs [d])[j]?=some u->W.cell? ((⟨g,0,none⟩:Addr).add j)=some u:=by
 intro j u hu;refine As hg j u ?_;have e:dcs [d]=[.int .u8 d.k,.string d.t,.int .i64 d.b,.int .i64 d.i,.bool d.e]:=by simp [dcs,aN,Dc.cs]
 rw [e] at hu
 simpa using hu
end Go.Proofs.YtpdlohfdjiaegaaGreatDoor
namespace Go.Proofs.YtpdlohfdjiaegaaGreatDoor
open Go.RowKit
open Lw (Dc bE rt frm dep rtT rtN)
structure Dr where
 ns:List Int
 ts:List (List UInt8)
 a:List UInt8
 b:List UInt8
deriving DecidableEq
def bu:List Dr:=[
 ⟨[1],[[112,114,111,103,114,97,109]],[],[83]⟩,
 ⟨[1,12,10],[[59]],[],[72]⟩,
 ⟨[2,20],[[98,101,103,105,110]],[],[69,72]⟩,
 ⟨[2,20,10,15,16,17],[[101,110,100]],[93,72],[]⟩,
 ⟨[3],[[118,97,114]],[],[83,52]⟩,
 ⟨[3,7,11,29,31],[[44]],[],[66]⟩,
 ⟨[3,7,11],[[58]],[93],[83]⟩,
 ⟨[3],[[59]],[],[72]⟩,
 ⟨[4],[[99,111,110,115,116]],[],[83]⟩,
 ⟨[5],[[112,114,111,99]],[],[83]⟩,
 ⟨[4],[[61]],[83],[50,66]⟩,
 ⟨[4],[[59]],[93],[72]⟩,
 ⟨[5],[[58]],[],[83]⟩,
 ⟨[6],[[40]],[],[50,48]⟩,
 ⟨[6],[[59]],[],[66]⟩,
 ⟨[6,27,31],[[41]],[93],[]⟩,
 ⟨[9],[[97,114,114,97,121]],[],[83]⟩,
 ⟨[9],[[111,102]],[83],[83]⟩,
 ⟨[10],[[114,101,99,111,114,100]],[],[69,72]⟩,
 ⟨[14],[[58,61]],[83],[66]⟩,
 ⟨[15],[[105,102]],[],[83,51]⟩,
 ⟨[15],[[101,108,105,102]],[93,72],[83,51]⟩,
 ⟨[16],[[119,104,105,108,101]],[],[83,51]⟩,
 ⟨[15],[[116,104,101,110]],[93,83],[69,72]⟩,
 ⟨[15],[[101,108,115,101]],[93,72],[69,72]⟩,
 ⟨[16],[[100,111]],[93,83],[69,72]⟩,
 ⟨[17],[[102,111,114]],[],[83]⟩,
 ⟨[17],[[58,61],[116,111]],[83],[83]⟩,
 ⟨[17],[[100,111]],[83],[69,72]⟩,
 ⟨[18],[[114,101,112,101,97,116]],[],[69,72]⟩,
 ⟨[18],[[117,110,116,105,108]],[93,72],[83,51]⟩,
 ⟨[26],[[110,111,116]],[],[83]⟩,
 ⟨[27],[[40]],[],[53]⟩,
 ⟨[29],[[91]],[],[53]⟩,
 ⟨[29],[[93]],[93],[]⟩,
 ⟨[31],[[40]],[],[50]⟩]
def iV:List (List UInt8):=[[112,114,111,103,114,97,109],[59],[98,101,103,105,110],[101,110,100],[118,97,114],[44],[58],[99,111,110,115,116],[112,114,111,99],[61],[40],[41],[97,114,114,97,121],[111,102],[114,101,99,111,114,100],[58,61],[105,102],[101,108,105,102],[119,104,105,108,101],[116,104,101,110],[101,108,115,101],[100,111],[102,111,114],[116,111],[114,101,112,101,97,116],[117,110,116,105,108],[110,111,116],[91],[93]]
def Dr.fits (r:Dr) (k:Int) (w:List UInt8):Bool:=r.ns.contains k && r.ts.contains w
def iW (k:Int) (w:List UInt8):List UInt8 × List UInt8:=match bu.find? (fun r=>r.fits k w) with
 |some r=>(r.a,r.b)
 |none=>([],[])
def jj (k:Int):Bool:=[21,22,23,24].contains k
def gJ (n:Nd) (t:Tv):List UInt8 × List UInt8:=
 if t.k≠2/\t.k≠6 then ([],[])
 else if jj n.k=true then ([83],[66])
 else if n.k=5/\t.t.data.toList=[59] then (if n.b=0 then ([],[69,72]) else ([93],[72]))
 else iW n.k t.t.data.toList
def pzb:Pz->UInt8
 |.S=>83
 |.B1=>66
 |.B0=>48
 |.H=>72
 |.J=>69
 |.X=>93
 |.I 0=>54
 |.I 1=>53
 |.I 2=>50
 |.I 3=>51
 |.I _=>52
def Pz.few:Pz->Bool
 |.I n=>decide (n<=4)
 |_=>true
theorem sV (f:Fx):∀p∈f.pz,p.few=true:=by cases f <;> decide
def gO (n:Nd) (w:List UInt8):List UInt8 × List UInt8:=
 let r:=(tab.find? (fun r=>(decide (r.t=[]) || decide (r.t=w)) && r.ns.any n.is)).getD rw0
 (r.a.pz.map pzb,r.b.pz.map pzb)
def fh (n:Nd) (w:List UInt8):List UInt8 × List UInt8:=
 if jj n.k=true then ([83],[66])
 else if n.k=5/\w=[59] then (if n.b=0 then ([],[69,72]) else ([93],[72]))
 else iW n.k w
theorem vI (n:Nd):n.is=(⟨n.k,if n.b=0 then 0 else 1,false⟩:Nd).is:=by
 funext k
 unfold Nd.is
 by_cases h:n.b=0 <;> simp [h]
theorem ju (n:Nd) (w:List UInt8):gO n w=gO ⟨n.k,if n.b=0 then 0 else 1,false⟩ w:=by unfold gO;rw [vI n]
theorem pm (n:Nd) (w:List UInt8):fh n w=fh ⟨n.k,if n.b=0 then 0 else 1,false⟩ w:=by
 unfold fh
 by_cases h:n.b=0 <;> simp [h]
def kc:List Int:=[1,2,3,4,5,6,7,8,9,10,11,12,13,14,15,16,17,18,19,20,21,22,23,24,25,26,27,28,29,30,31,32]
theorem yU {k:Int}(h1:1<=k) (h2:k<=32):k∈kc:=by
 unfold kc;simp only [zK,Av,B6];omega
theorem ph:∀w∈iV,∀k∈kc,∀b∈[0,1],gO ⟨k,b,false⟩ w=fh ⟨k,b,false⟩ w:=by decide +kernel
theorem o5:∀r∈tab,r.t∈iV\/(r.t=[]/\r.ns=[21,22,23,24,0,0]):=by decide +kernel
theorem np:∀r∈bu,∀t∈r.ts,t∈iV:=by decide +kernel
theorem xB:∀k∈[21,22,23,24],∀w:List UInt8,gO ⟨k,0,false⟩ w=([83],[66]):=by
 intro k hk w
 have h0:∀r∈tab.take 34,r.ns.any (⟨k,0,false⟩:Nd).is=false:=by
  simp only [zK,Av,B6] at hk
  rcases hk with rfl|rfl|rfl|rfl <;> decide +kernel
 have h1:(⟨[21,22,23,24,0,0],[],.blank,.break1⟩:Rw).ns.any (⟨k,0,false⟩:Nd).is=true:=by
  simp only [zK,Av,B6] at hk
  rcases hk with rfl|rfl|rfl|rfl <;> decide +kernel
 have e:tab=tab.take 34++⟨[21,22,23,24,0,0],[],.blank,.break1⟩ :: tab.drop 35:=by decide +kernel
 have hf:tab.find? (fun r=>(decide (r.t=[]) || decide (r.t=w)) && r.ns.any (⟨k,0,false⟩:Nd).is)=some ⟨[21,22,23,24,0,0],[],.blank,.break1⟩:=by
  rw [e,Dy,BK.2 (fun r hr=>by rw [h0 r hr];simp),List.find?_cons];simp only [h1];rfl
 unfold gO;rw [hf];rfl
theorem ve:∀k∈[21,22,23,24],∀(b:Nat) (w:List UInt8),gO ⟨k,b,false⟩ w=([83],[66]):=by
 intro k hk b w
 have:(⟨k,b,false⟩:Nd).is=(⟨k,0,false⟩:Nd).is:=by
  funext j
  unfold Nd.is
  have:k≠5:=by
   simp only [zK,Av,B6] at hk;omega
  simp [this]
 have e:gO ⟨k,b,false⟩ w=gO ⟨k,0,false⟩ w:=by unfold gO;rw [this]
 rw [e,xB k hk w]
theorem yL (n:Nd) (w:List UInt8) (h1:1<=n.k) (h2:n.k<=32):gO n w=fh n w:=by
 by_cases hw:w∈iV
 ·rw [ju,pm];exact ph w hw n.k (yU h1 h2) _ (by split <;> simp)
 ·by_cases ho:jj n.k=true
  ·have hk:n.k∈([21,22,23,24]:List Int):=by simpa [jj] using ho
   rw [ju,ve n.k hk];unfold fh;rw [zw ho]
  ·have hk:n.k∉([21,22,23,24]:List Int):=by simpa [jj] using ho
   have hF:tab.find? (fun r=>(decide (r.t=[]) || decide (r.t=w)) && r.ns.any n.is)=none:=by
    refine BK.2 fun r hr=>?_
    rcases o5 r hr with a|⟨a,b⟩
    ·have:r.t≠w:=fun e=>hw (by rw [<-e];exact a)
     have hne:r.t≠[]:=fun e=>by rw [e] at a;revert a;decide
     simp [this,hne]
    ·rw [b];simp only [zK,Av,B6,not_or] at hk;simp only [CW,List.any_nil,Nd.is];simp [hk];omega
   have hG:bu.find? (fun r=>r.fits n.k w)=none:=by
    refine BK.2 fun r hr=>?_
    unfold Dr.fits;intro e;rw [zP] at e;exact hw (np r hr w (by simpa using e.2))
   have h59:([59]:List UInt8)∈iV:=by decide
   unfold gO fh iW;rw [hF,hG,zu ho,zu (fun e=>hw (by rw [e.2];exact h59))];rfl
theorem tB (n:Nd) (t:Tv) (h1:1<=n.k) (h2:n.k<=32):gJ n t=((aQ n t).a.pz.map pzb,(aQ n t).b.pz.map pzb):=by
 unfold gJ aQ
 by_cases hk:t.k=2\/t.k=6
 ·rw [zu (by omega),zw hk];exact (yL n t.t.data.toList h1 h2).symm
 ·rw [zw (by omega),zu hk];rfl
end Go.Proofs.YtpdlohfdjiaegaaGreatDoor
namespace Go.Proofs.YtpdlohfdjiaegaaGreatDoor
open Go.RowKit
open Lw (Dc bE rt frm dep rtT rtN dcs au aH)
variable {W W' W1 W2:World}{g:Nat}{st:Sy}{vn vw:Value}{i:Int}{wr en pt dn:Bool}
def Lkd (W:World) (ao:Option Addr) (ks:List Int):Prop:=∀j x,ks[j]?=some x->∃b off,ao=some ⟨b,off,none⟩/\W.cell? ⟨b,off+j,none⟩=some (.int .u8 x)
theorem fk (ks:List Int) (ao:Option Addr) (cap:Nat) (k:Int) (W:World) (h:Lkd W ao ks) (hl:ks.length<=1000):Aa 77 #[.slice ao ks.length cap,.int .u8 k] W fun r w'=>r=.returned (.bool (ks.contains k))/\w'=W:=by
 have HL:Hid (Lkd W ao ks):=h;obtain ⟨c,hc⟩:∃c,ks.contains k=c:=⟨_,rfl⟩;have HC:Hid (ks.contains k=c):=hc;rw [hc];clear h hc
 go_enter Tryz.func77,Tryz.ntmps77
 go_wp2_with fail
 go_loopw [5] (fun i wr=>∃j:Nat,j<=ks.length/\i=.int .i64 j/\Hid (wr=W/\∀m x,m<j->ks[m]?=some x->x≠k)) (fun i _=>ks.length-(intOf i).toNat)
 case atStart=>exact ⟨0,by omega,rfl,rfl,fun m x hm=>by omega⟩
 case round=>
  obtain ⟨j,hj,rfl,HI⟩:=hrel;obtain ⟨hw,hno⟩:=HI.out;subst hw
  by_cases hlt:j<ks.length
  ·have q1:(j:Int)<ks.length:=by omega
   have q3:(0:Int)<=j:=by omega
   obtain ⟨x,hx⟩:∃x,ks[j]?=some x:=⟨_,hH hlt⟩;obtain ⟨b,off,rfl,c0⟩:=HL.out j x hx
   by_cases e:x=k
   ·subst e;have HQ:Hid (c=true):=by show _=_;rw [<-HC.out,BY];exact Ah hx
    clear HI hno hx
    go_wp2_with fail
    go_ret
    rw [HQ.out];exact ⟨rfl,rfl⟩
   ·have q4:(x == k)=false:=by simpa using e
    have HN:Hid (∀m x,m<j+1->ks[m]?=some x->x≠k):=fun m y hm hy=>by
     by_cases e2:m=j
     ·subst e2;rw [hx] at hy;cases hy;exact e
     ·exact hno m y (by omega) hy
    clear HI hno hx e
    go_wp2_with fail
    exact ⟨⟨j+1,hlt,by go_num,trivial,HN.out⟩,by simp [intOf];omega⟩
  ·obtain rfl:j=ks.length:=by omega
   have q1:¬((ks.length:Int)<ks.length):=by omega
   have HQ:Hid (c=false):=by
    show _=_
    rw [<-HC.out,B3];intro h;rw [BY] at h;obtain ⟨m,hm,e⟩:=Cd h;exact hno m k hm (by rw [hH hm,e]) rfl
   clear HI hno
   go_wp2_with fail
   go_ret
   rw [HQ.out];exact ⟨rfl,rfl⟩
def Lx2 (W:World) (ao:Option Addr) (ts:List ByteArray):Prop:=∀j x,ts[j]?=some x->∃b off,ao=some ⟨b,off,none⟩/\W.cell? ⟨b,off+j,none⟩=some (.string x)
theorem pP (ts:List ByteArray) (ao:Option Addr) (cap:Nat) (t:ByteArray) (W:World) (h:Lx2 W ao ts) (hl:ts.length<=1000):Aa 127 #[.slice ao ts.length cap,.string t] W fun r w'=>r=.returned (.bool ((ts.map (fun x=>x.data.toList)).contains t.data.toList))/\w'=W:=by
 have HL:Hid (Lx2 W ao ts):=h;obtain ⟨c,hc⟩:∃c,(ts.map (fun x=>x.data.toList)).contains t.data.toList=c:=⟨_,rfl⟩;have HC:Hid ((ts.map (fun x=>x.data.toList)).contains t.data.toList=c):=hc;rw [hc];clear h hc
 go_enter Tryz.func127,Tryz.ntmps127
 go_wp2_with fail
 go_loopw [5] (fun i wr=>∃j:Nat,j<=ts.length/\i=.int .i64 j/\Hid (wr=W/\∀m x,m<j->ts[m]?=some x->x≠t)) (fun i _=>ts.length-(intOf i).toNat)
 case atStart=>exact ⟨0,by omega,rfl,rfl,fun m x hm=>by omega⟩
 case round=>
  obtain ⟨j,hj,rfl,HI⟩:=hrel;obtain ⟨hw,hno⟩:=HI.out;subst hw
  by_cases hlt:j<ts.length
  ·have q1:(j:Int)<ts.length:=by omega
   have q3:(0:Int)<=j:=by omega
   obtain ⟨x,hx⟩:∃x,ts[j]?=some x:=⟨_,hH hlt⟩;obtain ⟨b,off,rfl,c0⟩:=HL.out j x hx
   by_cases e:x=t
   ·subst e;have HQ:Hid (c=true):=by show _=_;rw [<-HC.out,BY];exact Cf.2 ⟨x,Ah hx,rfl⟩
    clear HI hno hx
    go_wp2_with fail
    go_ret
    rw [HQ.out];exact ⟨rfl,rfl⟩
   ·have q4:(x.toList == t.toList)=false:=by
     rw [B3];intro h2;have h3:x.toList=t.toList:=by simpa using h2
     rw [Lib.toList_data,Lib.toList_data] at h3;exact e (Lw.fp h3)
    have HN:Hid (∀m x,m<j+1->ts[m]?=some x->x≠t):=fun m y hm hy=>by
     by_cases e2:m=j
     ·subst e2;rw [hx] at hy;cases hy;exact e
     ·exact hno m y (by omega) hy
    clear HI hno hx e
    go_wp2_with fail
    exact ⟨⟨j+1,hlt,by go_num,trivial,HN.out⟩,by simp [intOf];omega⟩
  ·obtain rfl:j=ts.length:=by omega
   have q1:¬((ts.length:Int)<ts.length):=by omega
   have HQ:Hid (c=false):=by
    show _=_
    rw [<-HC.out,B3];intro h;rw [BY] at h;obtain ⟨x,hx,ex⟩:=Cf.1 h;obtain ⟨m,hm,e⟩:=Cd hx;exact hno m x hm (by rw [hH hm,e]) (Lw.fp ex)
   clear HI hno
   go_wp2_with fail
   go_ret
   rw [HQ.out];exact ⟨rfl,rfl⟩
abbrev tM:Nat:=138
def lw:Option Nat->Int
 |none=>-1
 |some m=>(m:Int)
def DB (W:World) (g:Nat) (vn vw:Value) (i:Int) (wr en pt dn:Bool):Prop:=W.heap[g]?=some (.cells #[vn,vw,.int .i64 i,.bool wr,.bool en,.bool pt,.bool dn] 77 (0,0))
theorem DB.cells {W:World}{g:Nat}{vn vw:Value}{i:Int}{wr en pt dn:Bool}(h:DB W g vn vw i wr en pt dn) :
  W.cell? ⟨g,0,none⟩=some vn/\W.cell? ⟨g,1,none⟩=some vw/\W.cell? ⟨g,2,none⟩=some (.int .i64 i)/\W.cell? ⟨g,3,none⟩=some (.bool wr)/\W.cell? ⟨g,4,none⟩=some (.bool en)/\W.cell? ⟨g,5,none⟩=some (.bool pt)/\W.cell? ⟨g,6,none⟩=some (.bool dn):=
 ⟨aa h rfl,aa h rfl,aa h rfl,aa h rfl,aa h rfl,aa h rfl,aa h rfl⟩
theorem DB.frozen (h:DB W g vn vw i wr en pt dn) (j:Nat):W.frozen? ⟨g,j,none⟩=false:=aj h
theorem DB.kp {S:Nat->Prop}{W W':World}{g:Nat}{vn vw:Value}{i:Int}{wr en pt dn:Bool}(h:DB W g vn vw i wr en pt dn) (hk:Kp S W W') (hS:¬S g):DB W' g vn vw i wr en pt dn:=hk.blk h hS
theorem DB.below (h:DB W g vn vw i wr en pt dn) (hb:Below W.heap.size W W'):DB W' g vn vw i wr en pt dn:=ab h hb
theorem DB.lt (h:DB W g vn vw i wr en pt dn):g<W.heap.size:=ah h
structure DV (W:World) (g:Nat) (st:Sy) (vn vw:Value):Prop where
 sb:DB W g vn vw (lw st.mr) st.wr st.en st.pt false
 rn:Rn tM W vn st.ns
 ro:Rof W vw st.ws
structure DS (S:Nat->Prop) (W:World) (g:Nat) (st:Sy):Prop where
 ex:∃vn vw,DV W g st vn vw/\(∀k,vn.ownBlock=some k->S k)/\(∀k,vw.ownBlock=some k->S k)
 sg:S g
 lt:∀k,S k->k<W.heap.size
def DM (S:Nat->Prop) (g:Nat) (W W':World) (st:Sy):Prop:=(∃S',DS S' W' g st/\∀k,S' k->S k\/W.heap.size<=k)/\Kp S W W'
theorem DV.below (h:DV W g st vn vw) (hb:Below W.heap.size W W'):DV W' g st vn vw:=⟨h.sb.below hb,aE h.rn hb,h.ro.below hb⟩
theorem DV.kp {S:Nat->Prop}{W W':World}{g:Nat}{st:Sy}{vn vw:Value}(h:DV W g st vn vw) (hk:Kp S W W') (h0:¬S g) (h1:∀k,vn.ownBlock=some k->¬S k) (h2:∀k,vw.ownBlock=some k->¬S k):DV W' g st vn vw:=
 ⟨h.sb.kp hk h0,hk.row h.rn h1,h.ro.kp hk h2⟩
theorem DS.below {S:Nat->Prop}(h:DS S W g st) (hb:Below W.heap.size W W'):DS S W' g st:=by
 obtain ⟨vn,vw,h1,h2⟩:=h.ex;exact ⟨⟨vn,vw,h1.below hb,h2⟩,h.sg,fun k hk=>zz (h.lt k hk) hb.size⟩
theorem DS.kp {S T:Nat->Prop}{W W':World}{g:Nat}{st:Sy}(h:DS S W g st) (hk:Kp T W W') (hT:∀k,S k->¬T k):DS S W' g st:=by
 obtain ⟨vn,vw,h1,h2,h3⟩:=h.ex;exact ⟨⟨vn,vw,h1.kp hk (hT _ h.sg) (fun k e=>hT k (h2 k e)) (fun k e=>hT k (h3 k e)),h2,h3⟩,h.sg,fun k hS=>zz (h.lt k hS) hk.size⟩
theorem DM.mk' {S:Nat->Prop}{W W':World}{g:Nat}{st:Sy}{vn vw:Value}(hv:DV W' g st vn vw) (hs:S g) (h1:∀k,vn.ownBlock=some k->S k\/W.heap.size<=k) (h2:∀k,vw.ownBlock=some k->S k\/W.heap.size<=k) (hk:Kp S W W'):DM S g W W' st:=
 ⟨⟨fun k=>(S k\/W.heap.size<=k)/\k<W'.heap.size,⟨⟨vn,vw,hv,fun k e=>⟨h1 k e,bS hv.rn k e⟩,fun k e=>⟨h2 k e,hv.ro.lt k e⟩⟩,⟨.inl hs,hv.sb.lt⟩,fun _ h=>h.2⟩,fun _ h=>h.1⟩,hk⟩
theorem DM.refl {S:Nat->Prop}{W:World}{g:Nat}{st:Sy}(h:DS S W g st):DM S g W W st:=⟨⟨S,h,fun _ h=>.inl h⟩,Kp.refl _ _⟩
theorem DM.quiet {S:Nat->Prop}(h:DS S W g st) (hb:Below W.heap.size W W'):DM S g W W' st:=⟨⟨S,h.below hb,fun _ h=>.inl h⟩,Kp.of_below hb⟩
theorem DM.trans {S:Nat->Prop}{st':Sy}(h:DM S g W W1 st) (h2:∀S1,DS S1 W1 g st->DM S1 g W1 W2 st'):DM S g W W2 st':=by
 obtain ⟨⟨S1,s1,s2⟩,hk⟩:=h;obtain ⟨⟨S2,t1,t2⟩,hk2⟩:=h2 S1 s1;refine ⟨⟨S2,t1,fun k hk'=>?_⟩,hk.step hk2 (fun k hlt hs=>?_)⟩
 ·rcases t2 k hk' with a|a
  ·exact s2 k a
  ·exact .inr (zr hk.size a)
 ·rcases s2 k hs with a|a
  ·exact a
  ·omega
theorem DM.below {S:Nat->Prop}(h:DM S g W W1 st) (hb:Below W1.heap.size W1 W2):DM S g W W2 st:=h.trans (fun _ s=>DM.quiet s hb)
theorem DM.first {S:Nat->Prop}{V:World}(hb:Below W.heap.size W V) (h:DM S g V W2 st):DM S g W W2 st:=by
 obtain ⟨⟨S1,a1,a2⟩,hk⟩:=h;exact ⟨⟨S1,a1,fun k hs=>(a2 k hs).imp id (fun e=>zr hb.size e)⟩,(Kp.of_below hb).step hk (fun _ _ h=>h)⟩
theorem DV.ws {w3:World}{v':Value}(h:DV W g st vn vw) (hb:Below W.heap.size W W1) (hg:Kp (fun k=>vw.ownBlock=some k) W1 w3) {l:List Dc}(hr:Rof w3 v' l) :
  (w3.cell? ⟨g,1,none⟩=some vw/\w3.frozen? ⟨g,1,none⟩=false)/\DV (w3.setCell ⟨g,1,none⟩ v') g { st with ws:=l } vn v'/\Kp (fun k=>k=g\/vw.ownBlock=some k) W (w3.setCell ⟨g,1,none⟩ v'):=by
 have k1:=h.below hb;have hne:¬vw.ownBlock=some g:=k1.ro.ne k1.sb (by decide);have h3:=k1.sb.kp hg hne;have n3:=hg.row k1.rn (fun k e1 e2=>iE k1.rn k1.ro (by decide) k e1 e2);have hk:Kp (fun k=>k=g\/vw.ownBlock=some k) W (w3.setCell ⟨g,1,none⟩ v'):=((Kp.of_below hb).step hg (fun k _ e=>.inr e)).step (Kp.set _ _ _ _) (fun k _ e=>.inl e);exact ⟨⟨aa h3 rfl,h3.frozen 1⟩,⟨af h3 1 _,(Kp.set _ _ _ _).row n3 (fun k e1 e2=>ay n3 h3 (by decide) (by rw [e1,e2])),hr.kp (Kp.set _ _ _ _) (fun k e1 e2=>hr.ne h3 (by decide) (by rw [e1,e2]))⟩,hk⟩
theorem DV.nd {W:World}{g:Nat}{st:Sy}{vw:Value}{b cap:Nat}{n m:Nd}{r:List Nd}(e:st.ns=n :: r) (h:DV W g st (.slice (some ⟨b,0,none⟩) (r.length+1) cap) vw) (j:Nat) (u:Value) (hj:j<3) (hm:n.cs.set j u=m.cs) :
  DV (W.setCell ⟨b,r.length*3+j,none⟩ u) g { st with ns:=m :: r } (.slice (some ⟨b,0,none⟩) (r.length+1) cap) vw:=by
 have hn:Rn tM W (.slice (some ⟨b,0,none⟩) (r.length+1) cap) (n :: r):=by rw [<-e];exact h.rn
 have hne:¬g=b:=fun e2=>ay h.rn h.sb (by decide) (by rw [e2];rfl)
 refine ⟨h.sb.kp (Kp.set W b _ u) hne,rG hn j u hj hm,h.ro.kp (Kp.set W b _ u) (fun k e1 e2=>iE h.rn h.ro (by decide) b rfl (by rw [e1,e2]))⟩
end Go.Proofs.YtpdlohfdjiaegaaGreatDoor
