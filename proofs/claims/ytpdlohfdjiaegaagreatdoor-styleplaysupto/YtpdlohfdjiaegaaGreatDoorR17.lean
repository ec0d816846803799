import Derived.Lib.Walk
import Derived.Shelf.RegionOpenPlain
import Derived.RangeFuncOwn
import Derived.Test.YtpdlohfdjiaegaaGreatDoorR16
set_option linter.unusedVariables false
set_option linter.unusedSimpArgs false
set_option maxHeartbeats 1000000
set_option maxRecDepth 100000
namespace Go.Proofs.YtpdlohfdjiaegaaGreatDoor.Lw
open Go.Proofs.YtpdlohfdjiaegaaGreatDoor.Lx
open Go.RowKit
open Go.Lib (strCells strCells_length)
variable {w w':World}{i:Nat}
structure En (own:Nat->Nat) (w:World):Prop where
 nf:Nf own w
 tab:Tab w
 z:own 4=0
theorem Tab.pos (h:Tab w):4<w.heap.size:=zy w _ (h 0 (by omega)).1
theorem En.fr {own own':Nat->Nat}(h:En own w) (hi:i≠0) (hn:Nf own' w') (hf:Fr i own own' w w'):En own' w':=
 ⟨hn,hf.tab h.tab (by rw [h.z];exact fun e=>hi e.symm),(hf.old 4 h.tab.pos).trans h.z⟩
theorem En.below {own:Nat->Nat}(h:En own w) (hb:Below w.heap.size w w'):En own w':=⟨h.nf.below hb.size,h.tab.below hb,h.z⟩
def Ae (own:Nat->Nat) (i:Nat) (w w':World) (g:Nat) (s:St6):Prop:=∃own',En own' w'/\Fr i own own' w w'/\SK own' i w' g s
theorem Af.ae {own:Nat->Nat}{g:Nat}{s:St6}(h:Af own i w w' g s) (hE:En own w) (hi:i≠0):Ae own i w w' g s:=by
 obtain ⟨own',h1,h2,h3⟩:=h;exact ⟨own',hE.fr hi h1 h2,h2,h3⟩
def st0:St6:=⟨true,0,0,[]⟩
theorem mR (own:Nat->Nat) (i:Nat) (w:World) (hE:En own w) (hi:i≠0):Aa 59 #[] w fun e w'=>e=.returned (.pointer (some ⟨w.heap.size,0,none⟩))/\Ae own i w w' w.heap.size st0:=by
 refine (kb w).mono ?_;rintro e w' ⟨rfl,rfl⟩;have hb:Below w.heap.size w (w.alloc (.cells (sk false 0 0 (.slice none 0 0) (.slice none 0 0)) 167)):=(gt _ _).alloc (eq _) _;have hs:(w.alloc (.cells (sk false 0 0 (.slice none 0 0) (.slice none 0 0)) 167)).heap.size=w.heap.size+1:=ge _ _;have hf:Fr i own (fun k=>if k=w.heap.size then i else own k) w (w.alloc (.cells (sk false 0 0 (.slice none 0 0) (.slice none 0 0)) 167)):=⟨hb.os,hb.tape,hb.output,hb.size,fun k hk _=>hb.block k hk,fun k hk=>zu (by omega)⟩;refine ⟨rfl,_,hE.fr hi ?_ hf,hf,zw rfl,.slice none 0 0,.slice none 0 0,[],[],ag _ _,⟨Ar _ _ _ _,fun k h=>by cases h⟩,⟨Ar _ _ _ _,fun k h=>by cases h⟩,zx _,rfl,eq _,fun x h=>by cases h⟩;intro k hk;rw [hs] at hk;show (if k=w.heap.size then i else own k)=0;rw [zu (by omega)];exact hE.nf k (by omega)
section
variable {own:Nat->Nat} {i:Nat} {g:Nat} {s:St6} {w:World}
theorem ur (h:SK own i w g s) (hE:En own w) (hi:i≠0) (t:ByteArray) (hb:s.out.length+s.col+s.wait+t.size<=1073741824) :
  Aa 104 #[.pointer (some ⟨g,0,none⟩),.string t] w fun e w'=>e=.returned (.int .i64 0)/\Ae own i w w' g (s.text t):=
 (qW own i g s t w h hE.nf hE.tab hb).mono fun e w' ⟨h1,h2⟩=>⟨h1,h2.ae hE hi⟩
theorem vT (h:SK own i w g s) (hE:En own w) (hi:i≠0) (c:Nat) (hc:c<=1048576) (hb:s.out.length<=1073741824) :
  Aa 161 #[.pointer (some ⟨g,0,none⟩),.int .i64 c] w fun e w'=>e=.returned (.int .i64 0)/\Ae own i w w' g (s.feed c):=
 (td own i g s c w h hE.nf hc hb).mono fun e w' ⟨h1,h2⟩=>⟨h1,h2.ae hE hi⟩
theorem th (h:SK own i w g s) (hE:En own w) (hi:i≠0) (hb:s.out.length<=1073741824) :
  Aa 108 #[.pointer (some ⟨g,0,none⟩)] w fun e w'=>e=.returned (.int .i64 0)/\Ae own i w w' g s.empty:=
 (qv own i g s w h hE.nf hb).mono fun e w' ⟨h1,h2⟩=>⟨h1,h2.ae hE hi⟩
theorem uy (h:SK own i w g s) (hE:En own w) (hi:i≠0) (hb:s.out.length<=1073741824) :
  Aa 61 #[.pointer (some ⟨g,0,none⟩)] w fun e w'=>e=.returned (.string ⟨s.out.toArray⟩)/\Ae own i w w' g s.take:=
 (bq own i g s w h hE.nf hb).mono fun e w' ⟨h1,h2⟩=>⟨h1,h2.ae hE hi⟩
theorem qI (h:SK own i w g s) (hE:En own w) (hi:i≠0) (n:Nat) (hn:n<=1048576) (hb:s.wait<=1073741824) :
  Aa 160 #[.pointer (some ⟨g,0,none⟩),.int .i64 n] w fun e w'=>e=.returned (.int .i64 0)/\Ae own i w w' g (s.blanks n):=by
 obtain ⟨tv,gv,text,gs,h1,h2,h3,h4⟩:=h.ex;refine (nC g (!s.fresh) s.col s.wait n tv gv w h1 (by omega) (by omega) (by omega) (by omega)).mono ?_;rintro e w' ⟨rfl,rfl⟩;have hk:=Kp.set w g 2 (.int .i64 ((s.wait:Int)+n));have hf:Fr i own own w (w.setCell ⟨g,2,none⟩ (.int .i64 ((s.wait:Int)+n))):=hk.fr (fun k _ e=>by subst e;exact h.lab) (fun _ _=>rfl);have r1:=ay h2.1 h1 (by decide);have r2:=ay h3.1 h1 (by decide);refine ⟨rfl,own,hE.fr hi (hE.nf.below hk.size) hf,hf,h.lab,tv,gv,text,gs,?_,⟨hk.row h2.1 (fun k e1 e2=>r1 (by rw [e1,e2])),h2.2⟩,⟨hk.row h3.1 (fun k e1 e2=>r2 (by rw [e1,e2])),h3.2⟩,h4⟩;exact af h1 2 _
theorem qA (h:SK own i w g s) (h1:s.col<=1073741824) (h2:s.wait<=1073741824) :
  Aa 163 #[.pointer (some ⟨g,0,none⟩)] w fun e w'=>e=.returned (.int .i64 ((s.col:Int)+s.wait))/\Below w.heap.size w w':=by
 obtain ⟨tv,gv,text,gs,a1,_⟩:=h.ex;exact nv g (!s.fresh) s.col s.wait tv gv w a1 (by omega) (by omega) (by omega) (by omega)
theorem lO (h:SK own i w g s) :
  Aa 159 #[.pointer (some ⟨g,0,none⟩)] w fun e w'=>e=.returned (.bool s.fresh)/\w'=w:=by
 obtain ⟨tv,gv,text,gs,a1,_⟩:=h.ex;have:=qj g (!s.fresh) s.col s.wait tv gv w a1
 simpa using this
end
end Go.Proofs.YtpdlohfdjiaegaaGreatDoor.Lw
namespace Go.Proofs.YtpdlohfdjiaegaaGreatDoor.Lw
open Go.Proofs.YtpdlohfdjiaegaaGreatDoor.Lx
def sN (t:ByteArray):Bool:=decide ((10:UInt8)∈t.data.toList)
def pw (d:Dc):Nat:=if d.k=1 then (if sN d.t then 4097 else (tw d.t).toNat) else if d.k=2 then 1 else if d.k=3 then d.b.toNat else if d.k=4\/d.k=5 then 4097 else 0
structure Sp where
 all:Nat
 hang:Nat
 deriving DecidableEq
def Sp.wid (s:Sp) (c:Nat):Sp:=⟨min (s.all+c) 4097,min (s.hang+c) 4097⟩
def cR (d:Dc) (s:Sp × List Sp):Nat × Sp × List Sp:=
 if d.k=7 then (0,⟨0,0⟩,s.1 :: s.2)
 else if d.k=6 then (s.1.all,(s.2.headD ⟨0,0⟩).wid s.1.all,s.2.tail)
 else if d.k=3 then ((s.1.wid (pw d)).hang,⟨(s.1.wid (pw d)).all,0⟩,s.2)
 else if d.k=4\/d.k=5 then (0,⟨(s.1.wid (pw d)).all,0⟩,s.2)
 else (0,s.1.wid (pw d),s.2)
def nds:List Dc->List Nat × Sp × List Sp
 |[]=>([],⟨0,0⟩,[])
 |d :: r=>((cR d (nds r).2).1 :: (nds r).1,(cR d (nds r).2).2)
theorem gW:∀l,(nds l).1.length=l.length
 |[]=>rfl
 |d :: r=>by simp [nds,gW r]
theorem ii (s:Sp) (c:Nat):(s.wid c).all<=4097/\(s.wid c).hang<=4097:=by simp only [Sp.wid];omega
def Sb (s:Sp):Prop:=s.all<=4097/\s.hang<=4097
theorem uu (d:Dc) (s:Sp × List Sp) (h:Sb s.1) (h2:∀x∈s.2,Sb x):(cR d s).1<=4097/\Sb (cR d s).2.1/\∀x∈(cR d s).2.2,Sb x:=by
 unfold cR
 repeat' split
 ·refine ⟨zx _,⟨zx _,zx _⟩,?_⟩;intro x hx
  rcases zK.1 hx with rfl|hx
  ·exact h
  ·exact h2 x hx
 ·exact ⟨h.1,ii _ _,fun x hx=>h2 x (List.mem_of_mem_tail hx)⟩
 ·exact ⟨(ii _ _).2,⟨(ii _ _).1,zx _⟩,h2⟩
 ·exact ⟨zx _,⟨(ii _ _).1,zx _⟩,h2⟩
 ·exact ⟨zx _,ii _ _,h2⟩
theorem mS:∀l,(∀x∈(nds l).1,x<=4097)/\Sb (nds l).2.1/\∀x∈(nds l).2.2,Sb x
 |[]=>⟨by simp [nds],⟨zx _,zx _⟩,by simp [nds]⟩
 |d :: r=>by
  obtain ⟨h1,h2,h3⟩:=mS r;obtain ⟨k1,k2,k3⟩:=uu d (nds r).2 h2 h3;refine ⟨?_,k2,k3⟩;intro x hx
  rcases zK.1 hx with rfl|hx
  ·exact k1
  ·exact h1 x hx
theorem lu:∀(l:List Dc) (o:Int) (j:Nat),0<=o->frm o j l=none->((nds l).2.2.length:Int)=o
 |[],o,j,ho,h=>by
  simp only [frm] at h
  split at h
  ·cases h
  ·show (0:Int)=o;omega
 |d :: r,o,j,ho,h=>by
  simp only [frm] at h
  split at h
  ·rename_i hc
   have ih:=lu r _ _ hc.2 h;show ((cR d (nds r).2).2.2.length:Int)=o;unfold cR;unfold dep at ih
   split
   ·rename_i h7
    rw [zu (by omega),zw h7] at ih;show (((nds r).2.2.length+1:Nat):Int)=o;omega
   ·rename_i h7
    split
    ·rename_i h6
     rw [zw h6] at ih;show ((nds r).2.2.tail.length:Int)=o;rw [List.length_tail];omega
    ·rename_i h6
     rw [zu h6,zu h7] at ih
     repeat' split
     all_goals (show ((nds r).2.2.length:Int)=o;omega)
  ·cases h
structure Bk where
 ind:Nat
 ev:Bool
 ft:Bool
structure Pr where
 sk:St6
 bl:Bk
 ar:List Bk
 en:Bool
def Pr.at (p:Pr):Nat:=p.sk.col+p.sk.wait
def Pr.fits (n need:Nat) (p:Pr):Bool:=decide (need+p.at<=n)
def Pr.hold (p:Pr) (m:Nat):Pr:=if p.sk.fresh then p else { p with sk:=p.sk.blanks m }
def Pr.endl (p:Pr):Pr:=if p.sk.fresh then p else { p with sk:=p.sk.feed p.bl.ind,en:=true }
def Pr.brk (n need:Nat) (p:Pr):Bool:=if p.bl.ev then !p.bl.ft else !p.fits n need
def put (n:Nat) (d:Dc) (need:Nat) (p:Pr):Pr:=
 if d.k=1 then { p with sk:=p.sk.text d.t,en:=false }
 else if d.k=2 then p.hold 1
 else if d.k=3 then (if p.brk n need then p.endl else p.hold d.b.toNat)
 else if d.k=4 then p.endl
 else if d.k=5 then (if p.en then { p with sk:=p.sk.empty,en:=false } else p)
 else if d.k=6 then { p with ar:=p.bl :: p.ar,bl:=⟨min (p.bl.ind+d.i.toNat) 1000,d.e,p.fits n need⟩ }
 else if d.k=7 then { p with bl:=p.ar.headD ⟨0,false,false⟩,ar:=p.ar.tail }
 else p
def jh (n:Nat):List Dc->List Nat->Pr->Pr
 |d :: r,m :: ms,p=>jh n r ms (put n d m p)
 |_,_,p=>p
def pr0:Pr:=⟨st0,⟨0,false,false⟩,[],false⟩
def oQ (n:Nat) (l:List Dc):List UInt8:=(jh n l (nds l).1 pr0).sk.out
def fw (n:Int) (l:List Dc):ByteArray × Int:=if n<1\/4096<n then (⟨#[]⟩,1) else if frm 0 0 l≠none then (⟨#[]⟩,70) else (⟨(oQ n.toNat l).toArray⟩,0)
def ud (d:Dc):Nat:=2*d.t.size+(if d.k=6\/d.k=7 then 0 else 1001)
def uds (l:List Dc):Nat:=(l.map ud).sum
structure Bp (p:Pr) (U:Nat):Prop where
 out:p.sk.out.length+p.sk.wait+(if p.sk.fresh then p.sk.col else 0)<=U
 col:p.sk.col+p.sk.wait<=U
 ind:p.bl.ind<=1000
 ar:∀b∈p.ar,b.ind<=1000
 wt:p.sk.fresh=true->p.sk.wait=0
theorem bp0:Bp pr0 0:=⟨by simp [pr0,st0],by simp [pr0,st0],by simp [pr0],by simp [pr0],fun _=>rfl⟩
theorem Bp.mono {p:Pr}{U V:Nat}(h:Bp p U) (hv:U<=V):Bp p V:=⟨zr h.out hv,zr h.col hv,h.ind,h.ar,h.wt⟩
theorem Bp.hold {p:Pr}{U:Nat}(h:Bp p U) (m:Nat):Bp (p.hold m) (U+m):=by
 unfold Pr.hold
 split
 ·exact h.mono (by omega)
 ·rename_i hf
  have h1:=h.out;have h2:=h.col;refine ⟨?_,?_,h.ind,h.ar,fun e=>absurd e hf⟩
  ·show p.sk.out.length+(p.sk.wait+m)+(if p.sk.fresh then p.sk.col else 0)<=_
   omega
  ·show p.sk.col+(p.sk.wait+m)<=_
   omega
theorem Bp.endl {p:Pr}{U:Nat}(h:Bp p U):Bp p.endl (U+1001):=by
 unfold Pr.endl
 split
 ·exact h.mono (by omega)
 ·rename_i hf
  have h1:=h.out;have h2:=h.col;have h3:=h.ind;refine ⟨?_,?_,h.ind,h.ar,fun _=>rfl⟩
  ·show (p.sk.out++[10]).length+0+p.bl.ind<=_
   rw [zq];simp only [List.length_cons,Ao];omega
  ·show p.bl.ind+0<=_
   omega
theorem xt {n need U:Nat}{d:Dc}{p:Pr}(hd:rt d=true) (h:Bp p U):Bp (put n d need p) (U+ud d):=by
 have h1:=h.out;have h2:=h.col;have h3:=h.ind;cases nP hd with
 |text t hq=>
  have hs:=(jU hq).1;refine ⟨?_,?_,h.ind,h.ar,?_⟩
  ·show (p.sk.text t).out.length+(p.sk.text t).wait+(if (p.sk.text t).fresh then (p.sk.text t).col else 0)<=U+ud ⟨1,t,0,0,false⟩
   unfold St6.text ud;rw [zu (by omega)];have e:t.data.toList.length=t.size:=by rw [AC];rfl
   simp only [zq,Bl,e];cases hf:p.sk.fresh
   ·rw [hf] at h1;simp at h1 ⊢;omega
   ·rw [hf] at h1;simp at h1 ⊢;omega
  ·show (p.sk.text t).col+(p.sk.text t).wait<=U+ud ⟨1,t,0,0,false⟩
   unfold St6.text ud;rw [zu (by omega)];have:=oo p.sk.col p.sk.wait t;show (gP p.sk.col p.sk.wait t).toNat+0<=_;simp;omega
  ·intro e
   exfalso
   have:(p.sk.text t).fresh=true:=e;unfold St6.text at this;rw [zu (by omega)] at this;cases this
 |brk m hq=>
  obtain ⟨q1,q2⟩:=jV hq;show Bp (if p.brk n need then p.endl else p.hold m.toNat) _
  split
  ·exact h.endl.mono (by simp [ud,bE])
  ·exact (h.hold _).mono (by simp [ud,bE];omega)
 |beg m e hq=>
  refine ⟨zr h1 (by omega),zr h2 (by omega),?_,?_,h.wt⟩
  ·show min (p.bl.ind+m.toNat) 1000<=1000
   omega
  ·intro b hb
   rcases zK.1 hb with rfl|hb
   ·exact h3
   ·exact h.ar b hb
 |blank=>exact (h.hold 1).mono (by simp [ud,bE])
 |hard=>exact h.endl.mono (by simp [ud,bE])
 |empty=>
  show Bp (if p.en then { p with sk:=p.sk.empty,en:=false } else p) _
  split
  ·unfold St6.empty
   split
   ·rename_i hf
    rw [zw hf] at h1;refine ⟨?_,?_,h3,h.ar,fun _=>rfl⟩
    ·show (p.sk.out++[10]).length+0+p.sk.col<=_
     rw [zq];simp [ud,bE];omega
    ·show p.sk.col+0<=_
     omega
   ·rename_i hf
    exact ⟨zr h1 (by omega),zr h2 (by omega),h3,h.ar,h.wt⟩
  ·exact h.mono (by omega)
 | «end»=>
  refine ⟨zr h1 (by omega),zr h2 (by omega),?_,fun b hb=>h.ar b (List.mem_of_mem_tail hb),h.wt⟩;show (p.ar.headD ⟨0,false,false⟩).ind<=1000;cases ha:p.ar with
  |nil=>simp
  |cons b r=>exact h.ar b (by rw [ha];exact zV)
theorem nV {n:Nat}:∀(l:List Dc) (ms:List Nat) (p:Pr) (U:Nat),(∀d∈l,rt d=true)->Bp p U->Bp (jh n l ms p) (U+uds l)
 |[],ms,p,U,_,h=>by simpa [jh,uds] using h
 |d :: r,[],p,U,_,h=>h.mono (by omega)
 |d :: r,m :: ms,p,U,hr,h=>by
  have:=nV (n:=n) r ms _ _ (fun x hx=>hr x (zX _ hx)) (xt (n:=n) (need:=m) (hr d zV) h);have e:U+uds (d :: r)=U+ud d+uds r:=by simp [uds];omega
  rw [e];exact this
theorem rO {n need:Nat}{d:Dc}{p:Pr}(hd:rt d=true) {o:Int}(h:(p.ar.length:Int)=o) (ho:0<=o+dep d.k):((put n d need p).ar.length:Int)=o+dep d.k:=by
 cases nP hd with
 |text t hq=>simpa [put,dep] using h
 |brk m hq=>
  have:((put n ⟨3,bE,m,0,false⟩ need p).ar)=p.ar:=by
   show (if p.brk n need then p.endl else p.hold m.toNat).ar=p.ar
   unfold Pr.endl Pr.hold
   repeat' split
   all_goals rfl
  rw [this];simpa [dep] using h
 |beg m e hq=>
  show (((p.bl :: p.ar).length:Nat):Int)=o+1
  simp;omega
 |blank=>
  have:(p.hold 1).ar=p.ar:=by unfold Pr.hold;split <;> rfl
  show ((p.hold 1).ar.length:Int)=o+0
  rw [this];omega
 |hard=>
  have:p.endl.ar=p.ar:=by unfold Pr.endl;split <;> rfl
  show (p.endl.ar.length:Int)=o+0
  rw [this];omega
 |empty=>
  have:(if p.en then { p with sk:=p.sk.empty,en:=false } else p).ar=p.ar:=by split <;> rfl
  show (((if p.en then { p with sk:=p.sk.empty,en:=false } else p).ar.length:Nat):Int)=o+0
  rw [this];omega
 | «end»=>
  show ((p.ar.tail.length:Nat):Int)=o+-1
  have:0<=o+-1:=ho;rw [List.length_tail];omega
end Go.Proofs.YtpdlohfdjiaegaaGreatDoor.Lw
namespace Go.Proofs.YtpdlohfdjiaegaaGreatDoor.Lw
open Go.Proofs.YtpdlohfdjiaegaaGreatDoor.Lx
open Go.RowKit
variable {B gb ga:Nat}{w:World}{s:Sp}{st:List Sp}
theorem ixb (l:List UInt8):decide (0<=Lib.indexByte l 10)=decide ((10:UInt8)∈l)/\-1<=Lib.indexByte l 10:=by
 induction l with
 |nil=>exact ⟨rfl,by decide⟩
 |cons b l ih=>
  unfold Lib.indexByte
  by_cases hb:b=10
  ·subst hb;simp
  ·have hb':(b == (10:UInt8))=false:=by simpa using hb
   have hne:¬(10:UInt8)=b:=fun h=>hb h.symm
   rw [hb'];obtain ⟨i1,i2⟩:=ih
   generalize Lib.indexByte l 10=z at *
   by_cases h0:(10:UInt8)∈l
   ·have:0<=z:=by simpa [h0] using i1
    have h1:¬z=-1:=by omega
    simp [h0,hne,h1];omega
   ·have:¬0<=z:=by simpa [h0] using i1
    have h1:z=-1:=by omega
    simp [h0,hne,h1]
theorem fq (s:ByteArray) (w:World) :
  Aa 234 #[.string s,.int .u8 10] w fun e w'=>e=.returned (.int .i64 (Lib.indexByte s.data.toList 10))/\w'=w:=by
 go_enter Tryz.func234,Tryz.ntmps234
 go_wp2
 rw [C1 Tryz.func248 (by kernel_rfl) (by kernel_rfl) (by kernel_rfl) (e:=Extern.BytealgIndexByte.indexByte) (by kernel_rfl),Lib.run_indexByteString];simp only [Result.andThen];rw [Oper.upon_value]
 go_wp2
 go_ret
 exact ⟨rfl,rfl⟩
theorem eP (s:ByteArray) (w:World) :
  Aa 246 #[.string s,.string ⟨#[10]⟩] w fun e w'=>e=.returned (.int .i64 (Lib.indexByte s.data.toList 10))/\w'=w:=by
 go_enter Tryz.func246,Tryz.ntmps246
 go_wp2_with (go_at_call 234;refine (fq _ _).mono ?_;rintro e w' ⟨rfl,rfl⟩)
 ·have h:([(10:UInt8)] == s.toList)=true:=by assumption
  have e:s.data.toList=[10]:=by rw [<-Lib.toList_data];exact (Ch.1 h).symm
  have e2:Lib.indexByte s.data.toList 10=0:=by rw [e];rfl
  go_ret
  exact ⟨by rw [e2];rfl,rfl⟩
 ·go_ret
  exact ⟨rfl,rfl⟩
theorem mD (s:ByteArray) (w:World) :
  Aa 230 #[.string s,.string ⟨#[10]⟩] w fun e w'=>e=.returned (.int .i64 (Lib.indexByte s.data.toList 10))/\w'=w:=by
 go_enter Tryz.func230,Tryz.ntmps230
 go_wp2_with (go_at_call 246;refine (eP _ _).mono ?_;rintro e w' ⟨rfl,rfl⟩)
 go_ret
 exact ⟨rfl,rfl⟩
theorem vL (s:ByteArray) (w:World) :
  Aa 195 #[.string s,.string ⟨#[10]⟩] w fun e w'=>e=.returned (.bool (sN s))/\w'=w:=by
 have h:=(ixb s.data.toList).1;unfold sN;rw [<-h];clear h
 go_enter Tryz.func195,Tryz.ntmps195
 go_wp2_with (go_at_call 230;refine (mD _ _).mono ?_;rintro e w' ⟨rfl,rfl⟩)
 go_ret
 exact ⟨rfl,rfl⟩
def kt (t:ByteArray):Nat:=if sN t then 4097 else (tw t).toNat
theorem lZ (s:ByteArray) (w:World) (hT:Tab w) (hs:s.size<=2147483647) :
  Aa 155 #[.string s] w fun e w'=>e=.returned (.int .i64 (kt s))/\Below w.heap.size w w':=by
 have hb:=jn s;have HT:=fV s w hT hs;have HH:=vL s w;unfold kt
 generalize sN s=b at *
 cases b
 ·obtain ⟨z,hz⟩:∃z:Nat,tw s=z:=⟨(tw s).toNat,by omega⟩;rw [hz] at HT ⊢;clear hb hz hT
  go_enter Tryz.func155,Tryz.ntmps155
  go_wp2_with (first|(go_at_call 195;refine HH.mono ?_;rintro e w1 ⟨rfl,rfl⟩)|(go_at_call 196;refine HT.mono ?_;rintro e w2 ⟨rfl,hb2⟩))
  go_ret
  exact ⟨by simp,hb2⟩
 ·clear hb hT HT
  go_enter Tryz.func155,Tryz.ntmps155
  go_wp2_with (first|(go_at_call 195;refine HH.mono ?_;rintro e w1 ⟨rfl,rfl⟩))
  go_ret
  exact ⟨rfl,gt _ _⟩
def spc (s:Sp):List Value:=[.int .i64 s.all,.int .i64 s.hang]
theorem uG (s:Sp):(spc s).length=2:=rfl
theorem oS (g:Nat) (s:Sp) (c:Nat) (w:World) (hg:w.heap[g]?=some (.cells #[.int .i64 s.all,.int .i64 s.hang] 216 (0,0))) (hs:Sb s) (hc:c<=1000000000) :
  Aa 154 #[.pointer (some ⟨g,0,none⟩),.int .i64 c] w fun e w'=>e=.returned (.tuple #[])/\w'.heap[g]?=some (.cells #[.int .i64 (s.wid c).all,.int .i64 (s.wid c).hang] 216 (0,0))/\Kp (fun k=>k=g) w w':=by
 obtain ⟨a,h⟩:=s;obtain ⟨ha,hh⟩:=hs;simp only at ha hh hg;have g0:w.cell? ⟨g,0,none⟩=some (.int .i64 a):=aa hg rfl;have g1:w.cell? ⟨g,1,none⟩=some (.int .i64 h):=aa hg rfl;have f0:w.frozen? ⟨g,0,none⟩=false:=aj hg;have f1:w.frozen? ⟨g,1,none⟩=false:=aj hg
 have HE:Hid (((w.setCell ⟨g,0,none⟩ (.int .i64 (min (a+c) 4097:Nat))).setCell ⟨g,1,none⟩ (.int .i64 (min (h+c) 4097:Nat))).heap[g]?=some (.cells #[.int .i64 (min (a+c) 4097:Nat),.int .i64 (min (h+c) 4097:Nat)] 216 (0,0))/\Kp (fun k=>k=g) w ((w.setCell ⟨g,0,none⟩ (.int .i64 (min (a+c) 4097:Nat))).setCell ⟨g,1,none⟩ (.int .i64 (min (h+c) 4097:Nat)))):=
  ⟨af (af hg 0 _) 1 _,(Kp.set _ _ _ _).trans (Kp.set _ _ _ _)⟩
 simp only [Sp.wid];have e1:((min (a+c) 4097:Nat):Int)=min ((a:Int)+c) 4097:=by omega
 have e2:((min (h+c) 4097:Nat):Int)=min ((h:Int)+c) 4097:=by omega
 rw [e1,e2] at HE ⊢;have hw1:(w.setCell ⟨g,0,none⟩ (.int .i64 (min ((a:Int)+c) 4097))).cell? ⟨g,1,none⟩=some (.int .i64 h):=aa (af hg 0 _) rfl;clear hg
 go_enter Tryz.func154,Tryz.ntmps154
 go_wp2_with fail
 go_end0
 exact ⟨rfl,HE.out⟩
theorem Tryz.info216:(Tryz.prog.info? 216).map (fun i=>(i.zero,i.size,i.bytes))=some (some (.agg #[.int .i64 0,.int .i64 0]),2,16):=by kernel_rfl
structure TL (B:Nat) (w:World) (gb ga:Nat) (s:Sp) (st:List Sp):Prop where
 hb:w.heap[gb]?=some (.cells #[.int .i64 s.all,.int .i64 s.hang] 216 (0,0))
 ha:∃v,w.heap[ga]?=some (.cells #[v] 217 (0,0))/\w.ownsRow 0 216 2 v st.length (aN spc st.reverse)/\∀k,v.ownBlock=some k->B<=k/\k≠gb
theorem TL.ne (h:TL B w gb ga s st):ga≠gb:=by
 obtain ⟨v,h1,_⟩:=h.ha;rintro rfl;have:=h.hb;rw [h1] at this;injection this with e
 injection e with _ e
 exact absurd e (by decide)
theorem TL.sub {B:Nat}{w w':World}{gb ga:Nat}{s s':Sp}{st:List Sp}(h:TL B w gb ga s st) (hk:Kp (fun k=>k=gb) w w') (hb:w'.heap[gb]?=some (.cells #[.int .i64 s'.all,.int .i64 s'.hang] 216 (0,0))):TL B w' gb ga s' st:=by
 have hne:=h.ne;obtain ⟨v,h1,h2,h3⟩:=h.ha;exact ⟨hb,⟨v,hk.blk h1 hne,hk.row h2 (fun k e1 e2=>(h3 k e1).2 e2),h3⟩⟩
theorem TL.below {w':World}(h:TL B w gb ga s st) (hb:Below w.heap.size w w'):TL B w' gb ga s st:=by
 obtain ⟨v,h1,h2,h3⟩:=h.ha;exact ⟨ab h.hb hb,⟨v,ab h1 hb,aE h2 hb,h3⟩⟩
def Sx (B gb ga:Nat) (k:Nat):Prop:=k=gb\/k=ga\/B<=k
end Go.Proofs.YtpdlohfdjiaegaaGreatDoor.Lw
namespace Go.Proofs.YtpdlohfdjiaegaaGreatDoor
open Go.Proofs.YtpdlohfdjiaegaaGreatDoor.Lw
open Go.Proofs.YtpdlohfdjiaegaaGreatDoor.Lx
open Go.RowKit
theorem Kp.wide {S T:Nat->Prop}{w w':World}(h:Kp S w w') (hST:∀k,S k->T k):Kp T w w':=⟨h.os,h.tape,h.output,h.size,fun k hk hT=>h.block k hk (fun hs=>hT (hST k hs))⟩
end Go.Proofs.YtpdlohfdjiaegaaGreatDoor
namespace Go.Proofs.YtpdlohfdjiaegaaGreatDoor.Lw
open Go.Proofs.YtpdlohfdjiaegaaGreatDoor.Lx
open Go.RowKit
variable {w w':World}{B gb ga:Nat}{s:Sp}{st:List Sp}
def Bo (B gb ga:Nat) (w w':World):Prop:=Kp (Sx B gb ga) w w'/\KeepsOthers w w'
theorem Bo.trans {a b c:World}(h:Bo B gb ga a b) (k:Bo B gb ga b c):Bo B gb ga a c:=⟨h.1.trans k.1,h.2.trans k.2⟩
theorem Bo.size {B gb ga:Nat}{a b:World}(h:Bo B gb ga a b):a.heap.size<=b.heap.size:=h.1.size
theorem eE (h:Below w.heap.size w w'):KeepsOthers w w':=⟨h.size,fun k o hk _=>(h.block k (ah hk)).trans hk⟩
theorem Bo.of_below {B gb ga:Nat}{w w':World}(h:Below w.heap.size w w'):Bo B gb ga w w':=⟨Kp.of_below h,eE h⟩
theorem eD {S:Nat->Prop}(h:Kp S w w') (hS:∀k,S k->∀o,w.heap[k]?=some o->o.isCells=true):KeepsOthers w w':=
 ⟨h.size,fun k o hk ho=>h.blk hk (fun hs=>by rw [hS k hs o hk] at ho;cases ho)⟩
theorem cA {g:Nat}{cs:Array Value}{T:TypeId}{f:Nat × Nat}(h:w.heap[g]?=some (.cells cs T f)):∀o,w.heap[g]?=some o->o.isCells=true:=by
 intro o ho;rw [h] at ho;cases ho;rfl
theorem el (h:TL B w gb ga s st) (hs:Sb s) (c:Nat) (hc:c<=1000000000) (hB:B<=w.heap.size) :
  Aa 154 #[.pointer (some ⟨gb,0,none⟩),.int .i64 c] w fun e w'=>e=.returned (.tuple #[])/\TL B w' gb ga (s.wid c) st/\Bo B gb ga w w':=by
 refine (oS gb s c w h.hb hs hc).mono ?_;rintro e w' ⟨rfl,h1,h2⟩;exact ⟨rfl,h.sub h2 h1,h2.wide (fun k e=>.inl e),eD h2 (fun k e=>by subst e;exact cA h.hb)⟩
theorem TL.hang0 (h:TL B w gb ga s st) (hB:B<=w.heap.size):TL B (w.setCell ⟨gb,1,none⟩ (.int .i64 0)) gb ga ⟨s.all,0⟩ st/\Bo B gb ga w (w.setCell ⟨gb,1,none⟩ (.int .i64 0)):=by
 have hk:=Kp.set w gb 1 (.int .i64 0);exact ⟨h.sub hk (af h.hb 1 _),hk.wide (fun k e=>.inl e),eD hk (fun k e=>by subst e;exact cA h.hb)⟩
def TA (B:Nat) (w:World) (gb ga:Nat) (r:Nat × Sp × List Sp) (e:Ending) (w':World):Prop:=e=.returned (.int .i64 r.1)/\TL B w' gb ga r.2.1 r.2.2/\Bo B gb ga w w'
theorem oX (h:TL B w gb ga s st) (hs:Sb s) (hB:B<=w.heap.size) (hT:∀W,Kp (Sx B gb ga) w W->Tab W) (t:ByteArray) (ht:t.size<=65535) :
  Aa 153 #[.agg #[.int .u8 1,.string t,.int .i64 0,.int .i64 0,.bool false],.pointer (some ⟨ga,0,none⟩),.pointer (some ⟨gb,0,none⟩)] w fun e w'=>TA B w gb ga (0,s.wid (kt t),st) e w':=by
 have hcb:kt t<=1000000000:=by have:=jn t;unfold kt;split <;> omega
 have HC:Hid (∀W,Bo B gb ga w W->Aa 155 #[.string t] W fun e w'=>e=.returned (.int .i64 (kt t))/\Ab W w'):=fun W hW=>lZ t W (hT W hW.1) (by omega)
 have HW:Hid (∀W,Bo B gb ga w W->TL B W gb ga s st->Aa 154 #[.pointer (some ⟨gb,0,none⟩),.int .i64 (kt t)] W fun e w'=>e=.returned (.tuple #[])/\TL B w' gb ga (s.wid (kt t)) st/\Bo B gb ga W w'):=fun W hW hL=>el hL hs _ hcb (zr hB hW.size)
 have H:Hid (TL B w gb ga s st/\B<=w.heap.size):=⟨h,hB⟩;have HA:Hid (∀o,Bo B gb ga w (w.alloc o)/\TL B (w.alloc o) gb ga s st):=fun o=>⟨Bo.of_below ((gt _ _).alloc (eq _) _),h.below ((gt _ _).alloc (eq _) _)⟩
 clear h hB hT
 generalize kt t=c at *
 go_enter CE,Co
 go_wp2_with (first|(go_at_call 155;refine (HC.out _ (HA.out _).1).mono ?_;rintro e w1 ⟨rfl,hb1⟩;have H1:Hid (Bo B gb ga w w1/\TL B w1 gb ga s st):=⟨(HA.out _).1.trans (Bo.of_below hb1),(HA.out _).2.below hb1⟩;clear hb1)|(go_at_call 154;refine (HW.out _ H1.out.1 H1.out.2).mono ?_;rintro e w2 ⟨rfl,h2,hb2⟩;have H2:Hid (TL B w2 gb ga (s.wid c) st/\Bo B gb ga w w2):=⟨h2,H1.out.1.trans hb2⟩;clear h2 hb2))
 go_ret
 exact ⟨rfl,H2.out.1,H2.out.2⟩
theorem mz (h:TL B w gb ga s st) (hs:Sb s) (hB:B<=w.heap.size) :
  Aa 153 #[.agg #[.int .u8 2,.string ⟨#[]⟩,.int .i64 0,.int .i64 0,.bool false],.pointer (some ⟨ga,0,none⟩),.pointer (some ⟨gb,0,none⟩)] w fun e w'=>TA B w gb ga (0,s.wid 1,st) e w':=by
 have HW:Hid (∀W,Bo B gb ga w W->TL B W gb ga s st->Aa 154 #[.pointer (some ⟨gb,0,none⟩),.int .i64 1] W fun e w'=>e=.returned (.tuple #[])/\TL B w' gb ga (s.wid 1) st/\Bo B gb ga W w'):=fun W hW hL=>el hL hs 1 (by omega) (zr hB hW.size)
 have HA:Hid (∀o,Bo B gb ga w (w.alloc o)/\TL B (w.alloc o) gb ga s st):=fun o=>⟨Bo.of_below ((gt _ _).alloc (eq _) _),h.below ((gt _ _).alloc (eq _) _)⟩
 clear h hB
 go_enter CE,Co
 go_wp2_with (first|(go_at_call 154;refine (HW.out _ (HA.out _).1 (HA.out _).2).mono ?_;rintro e w2 ⟨rfl,h2,hb2⟩;have H2:Hid (TL B w2 gb ga (s.wid 1) st/\Bo B gb ga w w2):=⟨h2,(HA.out _).1.trans hb2⟩;clear h2 hb2))
 go_ret
 exact ⟨rfl,H2.out.1,H2.out.2⟩
theorem jp (h:TL B w gb ga s st) (hs:Sb s) (hB:B<=w.heap.size) (k:Int) (hk:k=4\/k=5) :
  Aa 153 #[.agg #[.int .u8 k,.string ⟨#[]⟩,.int .i64 0,.int .i64 0,.bool false],.pointer (some ⟨ga,0,none⟩),.pointer (some ⟨gb,0,none⟩)] w fun e w'=>TA B w gb ga (0,⟨(s.wid 4097).all,0⟩,st) e w':=by
 have HW:Hid (∀W,Bo B gb ga w W->TL B W gb ga s st->Aa 154 #[.pointer (some ⟨gb,0,none⟩),.int .i64 4097] W fun e w'=>e=.returned (.tuple #[])/\TL B w' gb ga (s.wid 4097) st/\Bo B gb ga W w'):=fun W hW hL=>el hL hs 4097 (by omega) (zr hB hW.size)
 have HA:Hid (∀o,Bo B gb ga w (w.alloc o)/\TL B (w.alloc o) gb ga s st):=fun o=>⟨Bo.of_below ((gt _ _).alloc (eq _) _),h.below ((gt _ _).alloc (eq _) _)⟩
 have HB:Hid (B<=w.heap.size):=hB;clear h hB
 rcases hk with rfl|rfl
 all_goals
  go_enter CE,Co
  go_wp2_with (first|(go_at_call 154;refine (HW.out _ (HA.out _).1 (HA.out _).2).mono ?_;rintro e w2 ⟨rfl,h2,hb2⟩;have f1:=aj (k:=1) h2.hb;have c1:=aa (k:=1) h2.hb rfl;have H2:Hid (TL B w2 gb ga (s.wid 4097) st/\Bo B gb ga w w2):=⟨h2,(HA.out _).1.trans hb2⟩;clear h2 hb2))
  go_ret
  have h3:=H2.out.1.hang0 (zr HB.out H2.out.2.size);exact ⟨rfl,h3.1,H2.out.2.trans h3.2⟩
theorem qY (h:TL B w gb ga s st) (hs:Sb s) (hB:B<=w.heap.size) (b:Nat) (hb:b<=1000) :
  Aa 153 #[.agg #[.int .u8 3,.string ⟨#[]⟩,.int .i64 b,.int .i64 0,.bool false],.pointer (some ⟨ga,0,none⟩),.pointer (some ⟨gb,0,none⟩)] w fun e w'=>TA B w gb ga ((s.wid b).hang,⟨(s.wid b).all,0⟩,st) e w':=by
 have HW:Hid (∀W,Bo B gb ga w W->TL B W gb ga s st->Aa 154 #[.pointer (some ⟨gb,0,none⟩),.int .i64 b] W fun e w'=>e=.returned (.tuple #[])/\TL B w' gb ga (s.wid b) st/\Bo B gb ga W w'):=fun W hW hL=>el hL hs b (by omega) (zr hB hW.size)
 have HA:Hid (∀o,Bo B gb ga w (w.alloc o)/\TL B (w.alloc o) gb ga s st):=fun o=>⟨Bo.of_below ((gt _ _).alloc (eq _) _),h.below ((gt _ _).alloc (eq _) _)⟩
 have HB:Hid (B<=w.heap.size):=hB;clear h hB
 go_enter CE,Co
 go_wp2_with (first|(go_at_call 154;refine (HW.out _ (HA.out _).1 (HA.out _).2).mono ?_;rintro e w2 ⟨rfl,h2,hb2⟩;have f1:=aj (k:=1) h2.hb;have c1:=aa (k:=1) h2.hb rfl;have H2:Hid (TL B w2 gb ga (s.wid b) st/\Bo B gb ga w w2):=⟨h2,(HA.out _).1.trans hb2⟩;clear h2 hb2))
 go_ret
 have h3:=H2.out.1.hang0 (zr HB.out H2.out.2.size);exact ⟨rfl,h3.1,H2.out.2.trans h3.2⟩
end Go.Proofs.YtpdlohfdjiaegaaGreatDoor.Lw
