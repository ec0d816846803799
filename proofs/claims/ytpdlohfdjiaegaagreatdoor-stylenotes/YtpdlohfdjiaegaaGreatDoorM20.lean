import Derived.Lib.Walk
import Derived.Shelf.RegionOpenPlain
import Derived.RangeFuncOwn
import Derived.Test.YtpdlohfdjiaegaaGreatDoorM19
set_option linter.unusedVariables false
set_option linter.unusedSimpArgs false
namespace Go.Proofs.YtpdlohfdjiaegaaGreatDoor.Lw
open Go.Proofs.YtpdlohfdjiaegaaGreatDoor.Lx
structure Bk where
 ind:Nat
 ev:Bool
 ft:Bool
structure Pr where
 sk:St6
 bl:Bk
 ar:List Bk
 en:Bool
def Pr.at (p:Pr):Nat:=p.sk.col+p.sk.wait
def Pr.fits (n need:Nat) (p:Pr):Bool:=decide (need+p.at≤n)
def Pr.hold (p:Pr) (m:Nat):Pr:=if p.sk.fresh then p else { p with sk:=p.sk.blanks m }
def Pr.endl (p:Pr):Pr:=if p.sk.fresh then p else { p with sk:=p.sk.feed p.bl.ind,en:=true }
def Pr.brk (n need:Nat) (p:Pr):Bool:=if p.bl.ev then !p.bl.ft else !p.fits n need
def put (n:Nat) (d:Dc) (need:Nat) (p:Pr):Pr:=
 if d.k=1 then { p with sk:=p.sk.text d.t,en:=false }
 else if d.k=2 then p.hold 1
 else if d.k=3 then (if p.brk n need then p.endl else p.hold d.b.toNat)
 else if d.k=4 then p.endl
 else if d.k=5 then (if p.en then { p with sk:=p.sk.empty,en:=false } else p)
 else if d.k=6 then { p with ar:=p.bl :: p.ar,bl:=⟨min (p.bl.ind+d.i.toNat) 1000,d.e,p.fits n need⟩ }
 else if d.k=7 then { p with bl:=p.ar.headD ⟨0,false,false⟩,ar:=p.ar.tail }
 else p
def puts (n:Nat):List Dc→List Nat→Pr→Pr
 |d :: r,m :: ms,p=>puts n r ms (put n d m p)
 |_,_,p=>p
def pr0:Pr:=⟨st0,⟨0,false,false⟩,[],false⟩
def wout (n:Nat) (l:List Dc):List UInt8:=(puts n l (nds l).1 pr0).sk.out
def wprn (n:Int) (l:List Dc):ByteArray × Int:=if n<1∨4096<n then (⟨#[]⟩,1) else if frm 0 0 l≠none then (⟨#[]⟩,70) else (⟨(wout n.toNat l).toArray⟩,0)
def ud (d:Dc):Nat:=2*d.t.size+(if d.k=6∨d.k=7 then 0 else 1001)
def uds (l:List Dc):Nat:=(l.map ud).sum
structure Bp (p:Pr) (U:Nat):Prop where
 out:p.sk.out.length+p.sk.wait+(if p.sk.fresh then p.sk.col else 0)≤U
 col:p.sk.col+p.sk.wait≤U
 ind:p.bl.ind≤1000
 ar:∀b∈p.ar,b.ind≤1000
 wt:p.sk.fresh=true→p.sk.wait=0
theorem bp0:Bp pr0 0:=⟨by simp [pr0,st0],by simp [pr0,st0],by simp [pr0],by simp [pr0],fun _=>rfl⟩
theorem Bp.mono {p:Pr}{U V:Nat}(h:Bp p U) (hv:U≤V):Bp p V:=⟨Nat.le_trans h.out hv,Nat.le_trans h.col hv,h.ind,h.ar,h.wt⟩
theorem Bp.hold {p:Pr}{U:Nat}(h:Bp p U) (m:Nat):Bp (p.hold m) (U+m):=by
 unfold Pr.hold
 split
 ·exact h.mono (by omega)
 ·rename_i hf
  have h1:=h.out;have h2:=h.col
  refine ⟨?_,?_,h.ind,h.ar,fun e=>absurd e hf⟩
  ·show p.sk.out.length+(p.sk.wait+m)+(if p.sk.fresh then p.sk.col else 0)≤_
   omega
  ·show p.sk.col+(p.sk.wait+m)≤_
   omega
theorem Bp.endl {p:Pr}{U:Nat}(h:Bp p U):Bp p.endl (U+1001):=by
 unfold Pr.endl
 split
 ·exact h.mono (by omega)
 ·rename_i hf
  have h1:=h.out;have h2:=h.col;have h3:=h.ind
  refine ⟨?_,?_,h.ind,h.ar,fun _=>rfl⟩
  ·show (p.sk.out++[10]).length+0+p.bl.ind≤_
   rw [List.length_append];simp only [List.length_cons,List.length_nil];omega
  ·show p.bl.ind+0≤_
   omega
theorem put_bd {n need U:Nat}{d:Dc}{p:Pr}(hd:rt d=true) (h:Bp p U):Bp (put n d need p) (U+ud d):=by
 have h1:=h.out;have h2:=h.col;have h3:=h.ind
 cases rt_of hd with
 |text t hq=>
  have hs:=(rtT_len hq).1
  refine ⟨?_,?_,h.ind,h.ar,?_⟩
  ·show (p.sk.text t).out.length+(p.sk.text t).wait+(if (p.sk.text t).fresh then (p.sk.text t).col else 0)≤U+ud ⟨1,t,0,0,false⟩
   unfold St6.text ud
   rw [if_neg (by omega)]
   have e:t.data.toList.length=t.size:=by rw [Array.length_toList];rfl
   simp only [List.length_append,List.length_replicate,e]
   cases hf:p.sk.fresh
   ·rw [hf] at h1;simp at h1 ⊢;omega
   ·rw [hf] at h1;simp at h1 ⊢;omega
  ·show (p.sk.text t).col+(p.sk.text t).wait≤U+ud ⟨1,t,0,0,false⟩
   unfold St6.text ud
   rw [if_neg (by omega)]
   have:=ncol_bd p.sk.col p.sk.wait t
   show (ncol p.sk.col p.sk.wait t).toNat+0≤_
   simp;omega
  ·intro e
   exfalso
   have:(p.sk.text t).fresh=true:=e
   unfold St6.text at this
   rw [if_neg (by omega)] at this
   cases this
 |brk m hq=>
  obtain ⟨q1,q2⟩:=rtN_of hq
  show Bp (if p.brk n need then p.endl else p.hold m.toNat) _
  split
  ·exact h.endl.mono (by simp [ud,bE])
  ·exact (h.hold _).mono (by simp [ud,bE];omega)
 |beg m e hq=>
  refine ⟨Nat.le_trans h1 (by omega),Nat.le_trans h2 (by omega),?_,?_,h.wt⟩
  ·show min (p.bl.ind+m.toNat) 1000≤1000
   omega
  ·intro b hb
   rcases List.mem_cons.1 hb with rfl|hb
   ·exact h3
   ·exact h.ar b hb
 |blank=>exact (h.hold 1).mono (by simp [ud,bE])
 |hard=>exact h.endl.mono (by simp [ud,bE])
 |empty=>
  show Bp (if p.en then { p with sk:=p.sk.empty,en:=false } else p) _
  split
  ·unfold St6.empty
   split
   ·rename_i hf
    rw [if_pos hf] at h1
    refine ⟨?_,?_,h3,h.ar,fun _=>rfl⟩
    ·show (p.sk.out++[10]).length+0+p.sk.col≤_
     rw [List.length_append];simp [ud,bE];omega
    ·show p.sk.col+0≤_
     omega
   ·rename_i hf
    exact ⟨Nat.le_trans h1 (by omega),Nat.le_trans h2 (by omega),h3,h.ar,h.wt⟩
  ·exact h.mono (by omega)
 | «end»=>
  refine ⟨Nat.le_trans h1 (by omega),Nat.le_trans h2 (by omega),?_,fun b hb=>h.ar b (List.mem_of_mem_tail hb),h.wt⟩
  show (p.ar.headD ⟨0,false,false⟩).ind≤1000
  cases ha:p.ar with
  |nil=>simp
  |cons b r=>exact h.ar b (by rw [ha];exact List.mem_cons_self)
theorem puts_bd {n:Nat}:∀(l:List Dc) (ms:List Nat) (p:Pr) (U:Nat),(∀d∈l,rt d=true)→Bp p U→Bp (puts n l ms p) (U+uds l)
 |[],ms,p,U,_,h=>by simpa [puts,uds] using h
 |d :: r,[],p,U,_,h=>h.mono (by omega)
 |d :: r,m :: ms,p,U,hr,h=>by
  have:=puts_bd (n:=n) r ms _ _ (fun x hx=>hr x (List.mem_cons_of_mem _ hx)) (put_bd (n:=n) (need:=m) (hr d List.mem_cons_self) h)
  have e:U+uds (d :: r)=U+ud d+uds r:=by simp [uds];omega
  rw [e];exact this
theorem put_deep {n need:Nat}{d:Dc}{p:Pr}(hd:rt d=true) {o:Int}(h:(p.ar.length:Int)=o) (ho:0≤o+dep d.k):((put n d need p).ar.length:Int)=o+dep d.k:=by
 cases rt_of hd with
 |text t hq=>simpa [put,dep] using h
 |brk m hq=>
  have:((put n ⟨3,bE,m,0,false⟩ need p).ar)=p.ar:=by
   show (if p.brk n need then p.endl else p.hold m.toNat).ar=p.ar
   unfold Pr.endl Pr.hold
   repeat' split
   all_goals rfl
  rw [this];simpa [dep] using h
 |beg m e hq=>
  show (((p.bl :: p.ar).length:Nat):Int)=o+1
  simp;omega
 |blank=>
  have:(p.hold 1).ar=p.ar:=by unfold Pr.hold;split <;> rfl
  show ((p.hold 1).ar.length:Int)=o+0
  rw [this];omega
 |hard=>
  have:p.endl.ar=p.ar:=by unfold Pr.endl;split <;> rfl
  show (p.endl.ar.length:Int)=o+0
  rw [this];omega
 |empty=>
  have:(if p.en then { p with sk:=p.sk.empty,en:=false } else p).ar=p.ar:=by split <;> rfl
  show (((if p.en then { p with sk:=p.sk.empty,en:=false } else p).ar.length:Nat):Int)=o+0
  rw [this];omega
 | «end»=>
  show ((p.ar.tail.length:Nat):Int)=o+-1
  have:0≤o+-1:=ho
  rw [List.length_tail];omega
end Go.Proofs.YtpdlohfdjiaegaaGreatDoor.Lw
namespace Go.Proofs.YtpdlohfdjiaegaaGreatDoor.Lw
open Go.Proofs.YtpdlohfdjiaegaaGreatDoor.Lx
open Go.RowKit
theorem ixb (l:List UInt8):decide (0≤Lib.indexByte l 10)=decide ((10:UInt8)∈l)∧-1≤Lib.indexByte l 10:=by
 induction l with
 |nil=>exact ⟨rfl,by decide⟩
 |cons b l ih=>
  unfold Lib.indexByte
  by_cases hb:b=10
  ·subst hb;simp
  ·have hb':(b == (10:UInt8))=false:=by simpa using hb
   have hne:¬(10:UInt8)=b:=fun h=>hb h.symm
   rw [hb']
   obtain ⟨i1,i2⟩:=ih
   generalize Lib.indexByte l 10=z at *
   by_cases h0:(10:UInt8)∈l
   ·have:0≤z:=by simpa [h0] using i1
    have h1:¬z=-1:=by omega
    simp [h0,hne,h1];omega
   ·have:¬0≤z:=by simpa [h0] using i1
    have h1:z=-1:=by omega
    simp [h0,hne,h1]
set_option maxRecDepth 100000 in
set_option maxHeartbeats 400000 in
theorem ixbyte_any (s:ByteArray) (w:World) :
  Calls Tryz.prog 234 #[.string s,.int .u8 10] w fun e w'=>e=.returned (.int .i64 (Lib.indexByte s.data.toList 10))∧w'=w:=by
 go_enter Tryz.func234,Tryz.ntmps234
 go_wp2
 rw [run_callFunc_extern Tryz.func248 (by kernel_rfl) (by kernel_rfl) (by kernel_rfl) (e:=Extern.BytealgIndexByte.indexByte) (by kernel_rfl),Lib.run_indexByteString]
 simp only [Result.andThen]
 rw [Oper.upon_value]
 go_wp2
 go_ret
 exact ⟨rfl,rfl⟩
set_option maxRecDepth 100000 in
set_option maxHeartbeats 1000000 in
theorem index_any (s:ByteArray) (w:World) :
  Calls Tryz.prog 246 #[.string s,.string ⟨#[10]⟩] w fun e w'=>e=.returned (.int .i64 (Lib.indexByte s.data.toList 10))∧w'=w:=by
 go_enter Tryz.func246,Tryz.ntmps246
 go_wp2_with (go_at_call 234;refine (ixbyte_any _ _).mono ?_;rintro e w' ⟨rfl,rfl⟩)
 ·have h:([(10:UInt8)] == s.toList)=true:=by assumption
  have e:s.data.toList=[10]:=by rw [←Lib.toList_data];exact (beq_iff_eq.1 h).symm
  have e2:Lib.indexByte s.data.toList 10=0:=by rw [e];rfl
  go_ret
  exact ⟨by rw [e2];rfl,rfl⟩
 ·go_ret
  exact ⟨rfl,rfl⟩
theorem sindex_any (s:ByteArray) (w:World) :
  Calls Tryz.prog 230 #[.string s,.string ⟨#[10]⟩] w fun e w'=>e=.returned (.int .i64 (Lib.indexByte s.data.toList 10))∧w'=w:=by
 go_enter Tryz.func230,Tryz.ntmps230
 go_wp2_with (go_at_call 246;refine (index_any _ _).mono ?_;rintro e w' ⟨rfl,rfl⟩)
 go_ret
 exact ⟨rfl,rfl⟩
theorem has_any (s:ByteArray) (w:World) :
  Calls Tryz.prog 195 #[.string s,.string ⟨#[10]⟩] w fun e w'=>e=.returned (.bool (hasF s))∧w'=w:=by
 have h:=(ixb s.data.toList).1
 unfold hasF
 rw [←h]
 clear h
 go_enter Tryz.func195,Tryz.ntmps195
 go_wp2_with (go_at_call 230;refine (sindex_any _ _).mono ?_;rintro e w' ⟨rfl,rfl⟩)
 go_ret
 exact ⟨rfl,rfl⟩
def cols (t:ByteArray):Nat:=if hasF t then 4097 else (tw t).toNat
theorem columns_any (s:ByteArray) (w:World) (hT:Tab w) (hs:s.size≤2147483647) :
  Calls Tryz.prog 155 #[.string s] w fun e w'=>e=.returned (.int .i64 (cols s))∧Below w.heap.size w w':=by
 have hb:=tw_bd s
 have HT:=wtext_any s w hT hs
 have HH:=has_any s w
 unfold cols
 generalize hasF s=b at *
 cases b
 ·obtain ⟨z,hz⟩:∃z:Nat,tw s=z:=⟨(tw s).toNat,by omega⟩
  rw [hz] at HT ⊢
  clear hb hz hT
  go_enter Tryz.func155,Tryz.ntmps155
  go_wp2_with (first|(go_at_call 195;refine HH.mono ?_;rintro e w1 ⟨rfl,rfl⟩)|(go_at_call 196;refine HT.mono ?_;rintro e w2 ⟨rfl,hb2⟩))
  go_ret
  exact ⟨by simp,hb2⟩
 ·clear hb hT HT
  go_enter Tryz.func155,Tryz.ntmps155
  go_wp2_with (first|(go_at_call 195;refine HH.mono ?_;rintro e w1 ⟨rfl,rfl⟩))
  go_ret
  exact ⟨rfl,Below.refl _ _⟩
def spc (s:Sp):List Value:=[.int .i64 s.all,.int .i64 s.hang]
theorem spc_len (s:Sp):(spc s).length=2:=rfl
theorem widen_any (g:Nat) (s:Sp) (c:Nat) (w:World) (hg:w.heap[g]?=some (.cells #[.int .i64 s.all,.int .i64 s.hang] 216 (0,0))) (hs:Sb s) (hc:c≤1000000000) :
  Calls Tryz.prog 154 #[.pointer (some ⟨g,0,none⟩),.int .i64 c] w fun e w'=>e=.returned (.tuple #[])∧w'.heap[g]?=some (.cells #[.int .i64 (s.wid c).all,.int .i64 (s.wid c).hang] 216 (0,0))∧Kp (fun k=>k=g) w w':=by
 obtain ⟨a,h⟩:=s
 obtain ⟨ha,hh⟩:=hs
 simp only at ha hh hg
 have g0:w.cell? ⟨g,0,none⟩=some (.int .i64 a):=blk_cell hg rfl
 have g1:w.cell? ⟨g,1,none⟩=some (.int .i64 h):=blk_cell hg rfl
 have f0:w.frozen? ⟨g,0,none⟩=false:=blk_frozen hg
 have f1:w.frozen? ⟨g,1,none⟩=false:=blk_frozen hg
 have HE:Hid (((w.setCell ⟨g,0,none⟩ (.int .i64 (min (a+c) 4097:Nat))).setCell ⟨g,1,none⟩ (.int .i64 (min (h+c) 4097:Nat))).heap[g]?=some (.cells #[.int .i64 (min (a+c) 4097:Nat),.int .i64 (min (h+c) 4097:Nat)] 216 (0,0))∧Kp (fun k=>k=g) w ((w.setCell ⟨g,0,none⟩ (.int .i64 (min (a+c) 4097:Nat))).setCell ⟨g,1,none⟩ (.int .i64 (min (h+c) 4097:Nat)))):=
  ⟨blk_set (blk_set hg 0 _) 1 _,(Kp.set _ _ _ _).trans (Kp.set _ _ _ _)⟩
 simp only [Sp.wid]
 have e1:((min (a+c) 4097:Nat):Int)=min ((a:Int)+c) 4097:=by omega
 have e2:((min (h+c) 4097:Nat):Int)=min ((h:Int)+c) 4097:=by omega
 rw [e1,e2] at HE ⊢
 have hw1:(w.setCell ⟨g,0,none⟩ (.int .i64 (min ((a:Int)+c) 4097))).cell? ⟨g,1,none⟩=some (.int .i64 h):=blk_cell (blk_set hg 0 _) rfl
 clear hg
 go_enter Tryz.func154,Tryz.ntmps154
 go_wp2_with fail
 go_end0
 exact ⟨rfl,HE.out⟩
theorem Tryz.info216:(Tryz.prog.info? 216).map (fun i=>(i.zero,i.size,i.bytes))=some (some (.agg #[.int .i64 0,.int .i64 0]),2,16):=by kernel_rfl
structure TL (B:Nat) (w:World) (gb ga:Nat) (s:Sp) (st:List Sp):Prop where
 hb:w.heap[gb]?=some (.cells #[.int .i64 s.all,.int .i64 s.hang] 216 (0,0))
 ha:∃v,w.heap[ga]?=some (.cells #[v] 217 (0,0))∧w.ownsRow 0 216 2 v st.length (flat spc st.reverse)∧∀k,v.ownBlock=some k→B≤k∧k≠gb
theorem TL.ne {B:Nat}{w:World}{gb ga:Nat}{s:Sp}{st:List Sp}(h:TL B w gb ga s st):ga≠gb:=by
 obtain ⟨v,h1,_⟩:=h.ha
 rintro rfl
 have:=h.hb
 rw [h1] at this
 injection this with e
 injection e with _ e
 exact absurd e (by decide)
theorem TL.sub {B:Nat}{w w':World}{gb ga:Nat}{s s':Sp}{st:List Sp}(h:TL B w gb ga s st) (hk:Kp (fun k=>k=gb) w w') (hb:w'.heap[gb]?=some (.cells #[.int .i64 s'.all,.int .i64 s'.hang] 216 (0,0))):TL B w' gb ga s' st:=by
 have hne:=h.ne
 obtain ⟨v,h1,h2,h3⟩:=h.ha
 exact ⟨hb,⟨v,hk.blk h1 hne,hk.row h2 (fun k e1 e2=>(h3 k e1).2 e2),h3⟩⟩
theorem TL.below {B:Nat}{w w':World}{gb ga:Nat}{s:Sp}{st:List Sp}(h:TL B w gb ga s st) (hb:Below w.heap.size w w'):TL B w' gb ga s st:=by
 obtain ⟨v,h1,h2,h3⟩:=h.ha
 exact ⟨blk_below h.hb hb,⟨v,blk_below h1 hb,row_below h2 hb,h3⟩⟩
def Sx (B gb ga:Nat) (k:Nat):Prop:=k=gb∨k=ga∨B≤k
end Go.Proofs.YtpdlohfdjiaegaaGreatDoor.Lw
namespace Go.Proofs.YtpdlohfdjiaegaaGreatDoor
open Go.Proofs.YtpdlohfdjiaegaaGreatDoor.Lw
open Go.Proofs.YtpdlohfdjiaegaaGreatDoor.Lx
open Go.RowKit
theorem Kp.wide {S T:Nat→Prop}{w w':World}(h:Kp S w w') (hST:∀k,S k→T k):Kp T w w':=⟨h.os,h.tape,h.output,h.size,fun k hk hT=>h.block k hk (fun hs=>hT (hST k hs))⟩
end Go.Proofs.YtpdlohfdjiaegaaGreatDoor
namespace Go.Proofs.YtpdlohfdjiaegaaGreatDoor.Lw
open Go.Proofs.YtpdlohfdjiaegaaGreatDoor.Lx
open Go.RowKit
def Bo (B gb ga:Nat) (w w':World):Prop:=Kp (Sx B gb ga) w w'∧KeepsOthers w w'
theorem Bo.trans {B gb ga:Nat}{a b c:World}(h:Bo B gb ga a b) (k:Bo B gb ga b c):Bo B gb ga a c:=⟨h.1.trans k.1,h.2.trans k.2⟩
theorem Bo.size {B gb ga:Nat}{a b:World}(h:Bo B gb ga a b):a.heap.size≤b.heap.size:=h.1.size
theorem ko_below {w w':World}(h:Below w.heap.size w w'):KeepsOthers w w':=⟨h.size,fun k o hk _=>(h.block k (blk_lt hk)).trans hk⟩
theorem Bo.of_below {B gb ga:Nat}{w w':World}(h:Below w.heap.size w w'):Bo B gb ga w w':=⟨Kp.of_below h,ko_below h⟩
theorem ko_kp {S:Nat→Prop}{w w':World}(h:Kp S w w') (hS:∀k,S k→∀o,w.heap[k]?=some o→o.isCells=true):KeepsOthers w w':=
 ⟨h.size,fun k o hk ho=>h.blk hk (fun hs=>by rw [hS k hs o hk] at ho;cases ho)⟩
theorem cells_of {w:World}{g:Nat}{cs:Array Value}{T:TypeId}{f:Nat × Nat}(h:w.heap[g]?=some (.cells cs T f)):∀o,w.heap[g]?=some o→o.isCells=true:=by
 intro o ho
 rw [h] at ho
 cases ho
 rfl
theorem widen_tl {B:Nat}{w:World}{gb ga:Nat}{s:Sp}{st:List Sp}(h:TL B w gb ga s st) (hs:Sb s) (c:Nat) (hc:c≤1000000000) (hB:B≤w.heap.size) :
  Calls Tryz.prog 154 #[.pointer (some ⟨gb,0,none⟩),.int .i64 c] w fun e w'=>e=.returned (.tuple #[])∧TL B w' gb ga (s.wid c) st∧Bo B gb ga w w':=by
 refine (widen_any gb s c w h.hb hs hc).mono ?_
 rintro e w' ⟨rfl,h1,h2⟩
 exact ⟨rfl,h.sub h2 h1,h2.wide (fun k e=>.inl e),ko_kp h2 (fun k e=>by subst e;exact cells_of h.hb)⟩
theorem TL.hang0 {B:Nat}{w:World}{gb ga:Nat}{s:Sp}{st:List Sp}(h:TL B w gb ga s st) (hB:B≤w.heap.size):TL B (w.setCell ⟨gb,1,none⟩ (.int .i64 0)) gb ga ⟨s.all,0⟩ st∧Bo B gb ga w (w.setCell ⟨gb,1,none⟩ (.int .i64 0)):=by
 have hk:=Kp.set w gb 1 (.int .i64 0)
 exact ⟨h.sub hk (blk_set h.hb 1 _),hk.wide (fun k e=>.inl e),ko_kp hk (fun k e=>by subst e;exact cells_of h.hb)⟩
def TA (B:Nat) (w:World) (gb ga:Nat) (r:Nat × Sp × List Sp) (e:Ending) (w':World):Prop:=e=.returned (.int .i64 r.1)∧TL B w' gb ga r.2.1 r.2.2∧Bo B gb ga w w'
set_option maxHeartbeats 1000000 in
set_option maxRecDepth 100000 in
theorem tell_text {B:Nat}{w:World}{gb ga:Nat}{s:Sp}{st:List Sp}(h:TL B w gb ga s st) (hs:Sb s) (hB:B≤w.heap.size) (hT:∀W,Kp (Sx B gb ga) w W→Tab W) (t:ByteArray) (ht:t.size≤65535) :
  Calls Tryz.prog 153 #[.agg #[.int .u8 1,.string t,.int .i64 0,.int .i64 0,.bool false],.pointer (some ⟨ga,0,none⟩),.pointer (some ⟨gb,0,none⟩)] w fun e w'=>TA B w gb ga (0,s.wid (cols t),st) e w':=by
 have hcb:cols t≤1000000000:=by have:=tw_bd t;unfold cols;split <;> omega
 have HC:Hid (∀W,Bo B gb ga w W→Calls Tryz.prog 155 #[.string t] W fun e w'=>e=.returned (.int .i64 (cols t))∧Below W.heap.size W w'):=fun W hW=>columns_any t W (hT W hW.1) (by omega)
 have HW:Hid (∀W,Bo B gb ga w W→TL B W gb ga s st→Calls Tryz.prog 154 #[.pointer (some ⟨gb,0,none⟩),.int .i64 (cols t)] W fun e w'=>e=.returned (.tuple #[])∧TL B w' gb ga (s.wid (cols t)) st∧Bo B gb ga W w'):=fun W hW hL=>widen_tl hL hs _ hcb (Nat.le_trans hB hW.size)
 have H:Hid (TL B w gb ga s st∧B≤w.heap.size):=⟨h,hB⟩
 have HA:Hid (∀o,Bo B gb ga w (w.alloc o)∧TL B (w.alloc o) gb ga s st):=fun o=>⟨Bo.of_below ((Below.refl _ _).alloc (Nat.le_refl _) _),h.below ((Below.refl _ _).alloc (Nat.le_refl _) _)⟩
 clear h hB hT
 generalize cols t=c at *
 go_enter Tryz.func153,Tryz.ntmps153
 go_wp2_with (first|(go_at_call 155;refine (HC.out _ (HA.out _).1).mono ?_;rintro e w1 ⟨rfl,hb1⟩;have H1:Hid (Bo B gb ga w w1∧TL B w1 gb ga s st):=⟨(HA.out _).1.trans (Bo.of_below hb1),(HA.out _).2.below hb1⟩;clear hb1)|(go_at_call 154;refine (HW.out _ H1.out.1 H1.out.2).mono ?_;rintro e w2 ⟨rfl,h2,hb2⟩;have H2:Hid (TL B w2 gb ga (s.wid c) st∧Bo B gb ga w w2):=⟨h2,H1.out.1.trans hb2⟩;clear h2 hb2))
 go_ret
 exact ⟨rfl,H2.out.1,H2.out.2⟩
set_option maxHeartbeats 1000000 in
set_option maxRecDepth 100000 in
theorem tell_blank {B:Nat}{w:World}{gb ga:Nat}{s:Sp}{st:List Sp}(h:TL B w gb ga s st) (hs:Sb s) (hB:B≤w.heap.size) :
  Calls Tryz.prog 153 #[.agg #[.int .u8 2,.string ⟨#[]⟩,.int .i64 0,.int .i64 0,.bool false],.pointer (some ⟨ga,0,none⟩),.pointer (some ⟨gb,0,none⟩)] w fun e w'=>TA B w gb ga (0,s.wid 1,st) e w':=by
 have HW:Hid (∀W,Bo B gb ga w W→TL B W gb ga s st→Calls Tryz.prog 154 #[.pointer (some ⟨gb,0,none⟩),.int .i64 1] W fun e w'=>e=.returned (.tuple #[])∧TL B w' gb ga (s.wid 1) st∧Bo B gb ga W w'):=fun W hW hL=>widen_tl hL hs 1 (by omega) (Nat.le_trans hB hW.size)
 have HA:Hid (∀o,Bo B gb ga w (w.alloc o)∧TL B (w.alloc o) gb ga s st):=fun o=>⟨Bo.of_below ((Below.refl _ _).alloc (Nat.le_refl _) _),h.below ((Below.refl _ _).alloc (Nat.le_refl _) _)⟩
 clear h hB
 go_enter Tryz.func153,Tryz.ntmps153
 go_wp2_with (first|(go_at_call 154;refine (HW.out _ (HA.out _).1 (HA.out _).2).mono ?_;rintro e w2 ⟨rfl,h2,hb2⟩;have H2:Hid (TL B w2 gb ga (s.wid 1) st∧Bo B gb ga w w2):=⟨h2,(HA.out _).1.trans hb2⟩;clear h2 hb2))
 go_ret
 exact ⟨rfl,H2.out.1,H2.out.2⟩
set_option maxHeartbeats 1000000 in
set_option maxRecDepth 100000 in
theorem tell_hard {B:Nat}{w:World}{gb ga:Nat}{s:Sp}{st:List Sp}(h:TL B w gb ga s st) (hs:Sb s) (hB:B≤w.heap.size) (k:Int) (hk:k=4∨k=5) :
  Calls Tryz.prog 153 #[.agg #[.int .u8 k,.string ⟨#[]⟩,.int .i64 0,.int .i64 0,.bool false],.pointer (some ⟨ga,0,none⟩),.pointer (some ⟨gb,0,none⟩)] w fun e w'=>TA B w gb ga (0,⟨(s.wid 4097).all,0⟩,st) e w':=by
 have HW:Hid (∀W,Bo B gb ga w W→TL B W gb ga s st→Calls Tryz.prog 154 #[.pointer (some ⟨gb,0,none⟩),.int .i64 4097] W fun e w'=>e=.returned (.tuple #[])∧TL B w' gb ga (s.wid 4097) st∧Bo B gb ga W w'):=fun W hW hL=>widen_tl hL hs 4097 (by omega) (Nat.le_trans hB hW.size)
 have HA:Hid (∀o,Bo B gb ga w (w.alloc o)∧TL B (w.alloc o) gb ga s st):=fun o=>⟨Bo.of_below ((Below.refl _ _).alloc (Nat.le_refl _) _),h.below ((Below.refl _ _).alloc (Nat.le_refl _) _)⟩
 have HB:Hid (B≤w.heap.size):=hB
 clear h hB
 rcases hk with rfl|rfl
 all_goals
  go_enter Tryz.func153,Tryz.ntmps153
  go_wp2_with (first|(go_at_call 154;refine (HW.out _ (HA.out _).1 (HA.out _).2).mono ?_;rintro e w2 ⟨rfl,h2,hb2⟩;have f1:=blk_frozen (k:=1) h2.hb;have c1:=blk_cell (k:=1) h2.hb rfl;have H2:Hid (TL B w2 gb ga (s.wid 4097) st∧Bo B gb ga w w2):=⟨h2,(HA.out _).1.trans hb2⟩;clear h2 hb2))
  go_ret
  have h3:=H2.out.1.hang0 (Nat.le_trans HB.out H2.out.2.size)
  exact ⟨rfl,h3.1,H2.out.2.trans h3.2⟩
set_option maxHeartbeats 1000000 in
set_option maxRecDepth 100000 in
theorem tell_brk {B:Nat}{w:World}{gb ga:Nat}{s:Sp}{st:List Sp}(h:TL B w gb ga s st) (hs:Sb s) (hB:B≤w.heap.size) (b:Nat) (hb:b≤1000) :
  Calls Tryz.prog 153 #[.agg #[.int .u8 3,.string ⟨#[]⟩,.int .i64 b,.int .i64 0,.bool false],.pointer (some ⟨ga,0,none⟩),.pointer (some ⟨gb,0,none⟩)] w fun e w'=>TA B w gb ga ((s.wid b).hang,⟨(s.wid b).all,0⟩,st) e w':=by
 have HW:Hid (∀W,Bo B gb ga w W→TL B W gb ga s st→Calls Tryz.prog 154 #[.pointer (some ⟨gb,0,none⟩),.int .i64 b] W fun e w'=>e=.returned (.tuple #[])∧TL B w' gb ga (s.wid b) st∧Bo B gb ga W w'):=fun W hW hL=>widen_tl hL hs b (by omega) (Nat.le_trans hB hW.size)
 have HA:Hid (∀o,Bo B gb ga w (w.alloc o)∧TL B (w.alloc o) gb ga s st):=fun o=>⟨Bo.of_below ((Below.refl _ _).alloc (Nat.le_refl _) _),h.below ((Below.refl _ _).alloc (Nat.le_refl _) _)⟩
 have HB:Hid (B≤w.heap.size):=hB
 clear h hB
 go_enter Tryz.func153,Tryz.ntmps153
 go_wp2_with (first|(go_at_call 154;refine (HW.out _ (HA.out _).1 (HA.out _).2).mono ?_;rintro e w2 ⟨rfl,h2,hb2⟩;have f1:=blk_frozen (k:=1) h2.hb;have c1:=blk_cell (k:=1) h2.hb rfl;have H2:Hid (TL B w2 gb ga (s.wid b) st∧Bo B gb ga w w2):=⟨h2,(HA.out _).1.trans hb2⟩;clear h2 hb2))
 go_ret
 have h3:=H2.out.1.hang0 (Nat.le_trans HB.out H2.out.2.size)
 exact ⟨rfl,h3.1,H2.out.2.trans h3.2⟩
theorem row_pop {β:Type}{enc:β→List Value}{sz:Nat}(hsz:∀x,(enc x).length=sz) {w:World}{e:Nat}{v:Value}{r:List β}{x:β}(h:w.ownsRow 0 e sz v (x :: r).length (flat enc (x :: r).reverse)) :
  ∃b cap,v=.slice (some ⟨b,0,none⟩) (r.length+1) cap∧r.length+1≤cap∧cap≤maxLen∧w.ownsRow 0 e sz (.slice (some ⟨b,0,none⟩) r.length cap) r.length (flat enc r.reverse)∧(∀j u,(enc x)[j]?=some u→w.cell? ⟨b,r.length*sz+j,none⟩=some u)∧∃cur,w.heap[b]?=some (.cells cur e (0,0)):=by
 have hcs:=fun b hb=>h.cells (g:=b) hb
 rcases h.2 with ⟨h1,h2⟩|⟨b,cap,cur,rfl,h2,h3,h4,h5,h6,h7⟩
 ·simp at h2
 ·have hr:(x :: r).reverse=r.reverse++[x]:=by simp
  rw [hr] at h7
  refine ⟨b,cap,rfl,h4,h5,⟨?_,.inr ⟨b,cap,cur,rfl,h2,h3,?_,h5,h6,?_⟩⟩,?_,cur,h3⟩
  ·rw [flat_len enc sz hsz,List.length_reverse]
  ·simp at h4;omega
  ·have:cur.toList.take (r.length*sz)=(cur.toList.take ((x :: r).length*sz)).take (r.length*sz):=by
    rw [List.take_take,Nat.min_eq_left (Nat.mul_le_mul_right _ (by simp))]
   rw [this,h7,flat_append,List.take_append_of_le_length (by rw [flat_len enc sz hsz,List.length_reverse];exact Nat.le_refl _),List.take_of_length_le (by rw [flat_len enc sz hsz,List.length_reverse];exact Nat.le_refl _)]
  ·intro j u hj
   have h8:(flat enc (x :: r).reverse)[r.length*sz+j]?=some u:=by
    rw [hr]
    refine flat_at enc sz hsz _ _ _ x u ?_ hj
    rw [List.getElem?_append_right (by simp)]
    simp
   have:=hcs b rfl _ u h8
   rw [Addr.add_lit,Nat.zero_add] at this
   exact this
theorem row_cells {w:World}{e sz n k:Nat}{v:Value}{xs:List Value}(h:w.ownsRow 0 e sz v n xs) (hk:v.ownBlock=some k):∀o,w.heap[k]?=some o→o.isCells=true:=by
 rcases h.2 with ⟨rfl,_⟩|⟨b,cap,cur,rfl,_,h3,_⟩
 ·cases hk
 ·cases hk;exact cells_of h3
theorem TL.push {B:Nat}{w W w2:World}{gb ga:Nat}{s:Sp}{st:List Sp}{v v2:Value}(h:TL B w gb ga s st) (hW:Below w.heap.size w W) (hB:B≤w.heap.size) (h1:W.heap[ga]?=some (.cells #[v] 217 (0,0))) (h2:∀k,v.ownBlock=some k→B≤k∧k≠gb) (ho:W.ownsRow 0 216 2 v st.length (flat spc st.reverse))
  (ho2:w2.ownsRow 0 216 2 v2 (st.length+1) (flat spc st.reverse++spc s)) (hg:W.grownBy w2 v.ownBlock) (hat:v2.ownBlock=v.ownBlock∨v2.ownBlock=some W.heap.size) :
  TL B (((w2.setCell ⟨ga,0,none⟩ v2).setCell ⟨gb,0,none⟩ (.int .i64 0)).setCell ⟨gb,1,none⟩ (.int .i64 0)) gb ga ⟨0,0⟩ (s :: st)∧Bo B gb ga w (((w2.setCell ⟨ga,0,none⟩ v2).setCell ⟨gb,0,none⟩ (.int .i64 0)).setCell ⟨gb,1,none⟩ (.int .i64 0)):=by
 have hne:=h.ne
 have hk:=Kp.of_grown hg
 have hgb:=blk_below h.hb hW
 have r1:=row_ne ho h1 (by decide)
 have g1:w2.heap[ga]?=some (.cells #[v] 217 (0,0)):=hk.blk h1 (fun e=>r1 e.symm)
 have g2:w2.heap[gb]?=some (.cells #[.int .i64 s.all,.int .i64 s.hang] 216 (0,0)):=hk.blk hgb (fun e=>(h2 gb e.symm).2 rfl)
 have r2:=row_ne ho2 g1 (by decide)
 have gbl:=blk_lt hgb
 have hv2:∀k,v2.ownBlock=some k→B≤k∧k≠gb:=by
  intro k hk
  rcases hat with e|e
  ·exact h2 k (by rw [←e];exact hk)
  ·rw [e] at hk
   injection hk with hk
   subst hk
   exact ⟨Nat.le_trans hB hW.size,by omega⟩
 have k1:=Kp.set w2 ga 0 v2
 have k2:=Kp.set (w2.setCell ⟨ga,0,none⟩ v2) gb 0 (.int .i64 0)
 have k3:=Kp.set ((w2.setCell ⟨ga,0,none⟩ v2).setCell ⟨gb,0,none⟩ (.int .i64 0)) gb 1 (.int .i64 0)
 refine ⟨⟨?_,⟨v2,?_,?_,hv2⟩⟩,?_⟩
 ·exact blk_set (blk_set (blk_other g2 (Ne.symm hne) _) 0 _) 1 _
 ·exact blk_other (blk_other (blk_set g1 0 _) hne _) hne _
 ·refine k3.row (k2.row (k1.row ?_ (fun k e1 e2=>r2 (by rw [e1,e2]))) (fun k e1 e2=>(hv2 k e1).2 e2)) (fun k e1 e2=>(hv2 k e1).2 e2)
  have:flat spc (s :: st).reverse=flat spc st.reverse++spc s:=by
   rw [List.reverse_cons,flat_append];simp [flat]
  rw [this]
  exact ho2
 ·have b0:Kp (Sx B gb ga) w w2:=(Kp.of_below hW).step hk (fun k _ e=>.inr (.inr (h2 k e.symm).1))
  refine ⟨((b0.step k1 (fun k _ e=>.inr (.inl e))).step k2 (fun k _ e=>.inl e)).step k3 (fun k _ e=>.inl e),?_⟩
  have o1:KeepsOthers W w2:=ko_kp hk (fun k e=>row_cells ho e.symm)
  have o2:=ko_kp k1 (fun k e=>by subst e;exact cells_of g1)
  have o3:=ko_kp k2 (fun k e=>by subst e;exact cells_of (blk_other g2 (Ne.symm hne) _))
  have o4:=ko_kp k3 (fun k e=>by subst e;exact cells_of (blk_set (blk_other g2 (Ne.symm hne) _) 0 _))
  exact (ko_below hW).trans (o1.trans (o2.trans (o3.trans o4)))
set_option maxHeartbeats 1000000 in
set_option maxRecDepth 100000 in
theorem tell_end {B:Nat}{w:World}{gb ga:Nat}{s:Sp}{st:List Sp}(h:TL B w gb ga s st) (hs:Sb s) (hB:B≤w.heap.size) (hn:st.length≤1000000000) :
  Calls Tryz.prog 153 #[.agg #[.int .u8 7,.string ⟨#[]⟩,.int .i64 0,.int .i64 0,.bool false],.pointer (some ⟨ga,0,none⟩),.pointer (some ⟨gb,0,none⟩)] w fun e w'=>TA B w gb ga (0,⟨0,0⟩,s :: st) e w':=by
 obtain ⟨i0,hi,hz0,hz1,hz2⟩:=info_parts Tryz.info216
 obtain ⟨v,h1,h2,h3⟩:=h.ha
 have gal:=blk_lt h1
 have gbl:=blk_lt h.hb
 have hnab:=h.ne
 have a0:w.cell? ⟨ga,0,none⟩=some v:=blk_cell h1 rfl
 have b0:w.cell? ⟨gb,0,none⟩=some (.int .i64 s.all):=blk_cell h.hb rfl
 have b1:w.cell? ⟨gb,1,none⟩=some (.int .i64 s.hang):=blk_cell h.hb rfl
 obtain ⟨p,cap,rfl,_,_⟩:=row_shape h2
 have hbW:Below w.heap.size w ((w.alloc (.cells #[.int .u8 7,.string ⟨#[]⟩,.int .i64 0,.int .i64 0,.bool false] 57)).alloc (.cells #[.int .i64 s.all,.int .i64 s.hang] 216)):=((Below.refl _ _).alloc (Nat.le_refl _) _).alloc (by rw [World.size_alloc];omega) _
 have hs2:(w.alloc (.cells #[.int .u8 7,.string ⟨#[]⟩,.int .i64 0,.int .i64 0,.bool false] 57)).heap.size=w.heap.size+1:=World.size_alloc _ _
 go_enter Tryz.func153,Tryz.ntmps153
 go_wp2_with (first|(at_builtin;refine wpList_append_own_at (P:=Tryz.prog) (w:=(w.alloc (.cells #[.int .u8 7,.string ⟨#[]⟩,.int .i64 0,.int .i64 0,.bool false] 57)).alloc (.cells #[.int .i64 s.all,.int .i64 s.hang] 216)) rfl _ _ 217 rfl 0 216 i0 (.agg #[.int .i64 0,.int .i64 0]) 2 16 Tryz.underlying217 hi hz0 hz1 hz2 rfl (by decide) _ _ _ rfl (row_below h2 hbW) ⟨w.heap.size+1,0,none⟩ 1 1 (spc s) rfl rfl ?c1 ?c2 ?c3 ?c4 ?c5 ?_))
 case c1=>exact two_new _ _ _ _ _ hs2.symm
 case c2=>intro u hu;simp [spc] at hu;rcases hu with rfl|rfl <;> rfl
 case c3=>unfold maxLen;omega
 case c4=>omega
 case c5=>omega
 intro v2 w2 ho2 hg2 _ hat
 obtain ⟨k1,k2⟩:=h.push hbW hB (blk_below h1 hbW) h3 (row_below h2 hbW) ho2 hg2 (by rw [World.size_alloc,hs2];exact hat)
 have hk:=Kp.of_grown hg2
 have r1:=row_ne h2 h1 (by decide)
 have g1:w2.heap[ga]?=some (.cells #[.slice p st.length cap] 217 (0,0)):=hk.blk (blk_below h1 hbW) (fun e=>r1 e.symm)
 have g2:w2.heap[gb]?=some (.cells #[.int .i64 s.all,.int .i64 s.hang] 216 (0,0)):=hk.blk (blk_below h.hb hbW) (fun e=>(h3 gb e.symm).2 rfl)
 have x0:=blk_cell (k:=0) g1 rfl
 have x1:=blk_frozen (k:=0) g1
 have y0:=blk_cell (k:=0) g2 rfl
 have y1:=blk_cell (k:=1) g2 rfl
 have y2:=blk_frozen (k:=0) g2
 have y3:=blk_frozen (k:=1) g2
 have HE:Hid (TL B (((w2.setCell ⟨ga,0,none⟩ v2).setCell ⟨gb,0,none⟩ (.int .i64 0)).setCell ⟨gb,1,none⟩ (.int .i64 0)) gb ga ⟨0,0⟩ (s :: st)∧Bo B gb ga w (((w2.setCell ⟨ga,0,none⟩ v2).setCell ⟨gb,0,none⟩ (.int .i64 0)).setCell ⟨gb,1,none⟩ (.int .i64 0))):=⟨k1,k2⟩
 obtain ⟨p2,cap2,rfl,_,_⟩:=row_shape ho2
 clear k1 k2 hk g1 g2 hg2 hat ho2 h h1 h2 h3 hbW r1
 go_wp2_with fail
 go_ret
 exact ⟨rfl,HE.out.1,HE.out.2⟩
theorem TL.pop {B:Nat}{w W:World}{gb ga:Nat}{s x:Sp}{r:List Sp}(h:TL B w gb ga s (x :: r)) (hW:Below w.heap.size w W) (hB:B≤w.heap.size):∃b cap,W.cell? ⟨ga,0,none⟩=some (.slice (some ⟨b,0,none⟩) (r.length+1) cap)∧r.length+1≤cap∧cap≤maxLen∧W.cell? ⟨b,r.length*2,none⟩=some (.int .i64 x.all)∧W.cell? ⟨b,r.length*2+1,none⟩=some (.int .i64 x.hang) ∧
  (b≠ga∧b≠gb∧b<w.heap.size) ∧
  TL B (((W.setCell ⟨gb,0,none⟩ (.int .i64 x.all)).setCell ⟨gb,1,none⟩ (.int .i64 x.hang)).setCell ⟨ga,0,none⟩ (.slice (some ⟨b,0,none⟩) r.length cap)) gb ga x r∧Bo B gb ga w (((W.setCell ⟨gb,0,none⟩ (.int .i64 x.all)).setCell ⟨gb,1,none⟩ (.int .i64 x.hang)).setCell ⟨ga,0,none⟩ (.slice (some ⟨b,0,none⟩) r.length cap)):=by
 have hne:=h.ne
 have hh:=h.below hW
 obtain ⟨v,h1,h2,h3⟩:=hh.ha
 obtain ⟨b,cap,rfl,c1,c2,c3,c4,cur,c5⟩:=row_pop spc_len h2
 have r1:=row_ne h2 h1 (by decide)
 have hb2:=h3 b rfl
 have hbw:b<w.heap.size:=by
  obtain ⟨v',h1',h2',h3'⟩:=h.ha
  have e:=blk_below h1' hW
  rw [h1] at e
  injection e with e
  injection e with e _
  have e2:v'=.slice (some ⟨b,0,none⟩) (r.length+1) cap:=by
   have:=congrArg (·[0]?) e
   simpa using this.symm
  subst e2
  exact (h2'.lt b rfl).2
 refine ⟨b,cap,blk_cell h1 rfl,c1,c2,c4 0 _ rfl,c4 1 _ rfl,⟨fun e=>r1 (by rw [e];rfl),hb2.2,hbw⟩,⟨?_,⟨.slice (some ⟨b,0,none⟩) r.length cap,?_,?_,fun k hk=>by cases hk;exact hb2⟩⟩,?_⟩
 ·exact blk_other (blk_set (blk_set hh.hb 0 _) 1 _) (Ne.symm hne) _
 ·exact blk_set (blk_other (blk_other h1 hne _) hne _) 0 _
 ·refine (Kp.set _ ga 0 _).row ((Kp.set _ gb 1 _).row ((Kp.set _ gb 0 _).row c3 ?_) ?_) ?_
  ·intro k e1 e2;cases e1;exact hb2.2 e2
  ·intro k e1 e2;cases e1;exact hb2.2 e2
  ·intro k e1 e2;cases e1;exact r1 (by rw [←e2];rfl)
 ·refine ⟨(((Kp.of_below hW).step (Kp.set W gb 0 _) (fun k _ e=>.inl e)).step (Kp.set _ gb 1 _) (fun k _ e=>.inl e)).step (Kp.set _ ga 0 _) (fun k _ e=>.inr (.inl e)),?_⟩
  have o2:=ko_kp (Kp.set W gb 0 (.int .i64 x.all)) (fun k e=>by subst e;exact cells_of hh.hb)
  have o3:=ko_kp (Kp.set (W.setCell ⟨gb,0,none⟩ (.int .i64 x.all)) gb 1 (.int .i64 x.hang)) (fun k e=>by subst e;exact cells_of (blk_set hh.hb 0 _))
  have o4:=ko_kp (Kp.set ((W.setCell ⟨gb,0,none⟩ (.int .i64 x.all)).setCell ⟨gb,1,none⟩ (.int .i64 x.hang)) ga 0 (.slice (some ⟨b,0,none⟩) r.length cap)) (fun k e=>by subst e;exact cells_of (blk_other (blk_other h1 hne _) hne _))
  exact (ko_below hW).trans (o2.trans (o3.trans o4))
end Go.Proofs.YtpdlohfdjiaegaaGreatDoor.Lw
