import Derived.OwnWalk
import Derived.Lib.LaidTab
import Derived.Lib.ItoaWalk
import Derived.Deep.RegionHeld3
import Derived.Test.YtpdlohfdjiaegaaGreatDoorR13
set_option linter.unusedVariables false
set_option linter.unusedSimpArgs false
set_option maxHeartbeats 2000000
set_option maxRecDepth 100000
namespace Go.Proofs.YtpdlohfdjiaegaaGreatDoor.Lw
open Go.Proofs.YtpdlohfdjiaegaaGreatDoor.Lx
open Go.RowKit
open Go.Lib (strCells strCells_length)
theorem wI (w:World) (A C D:Obj):(((w.alloc A).alloc C).alloc D).heap[w.heap.size]?=some A/\(((w.alloc A).alloc C).alloc D).heap[w.heap.size+1]?=some C/\(((w.alloc A).alloc C).alloc D).heap[w.heap.size+1+1]?=some D/\Below w.heap.size w (((w.alloc A).alloc C).alloc D):=by
 have s1:(w.alloc A).heap.size=w.heap.size+1:=ge w A;have s2:((w.alloc A).alloc C).heap.size=w.heap.size+1+1:=by rw [ge,s1]
 refine ⟨dW _ _ _ _ (dW _ _ _ _ (ag _ _)),dW _ _ _ _ ?_,?_,(((gt _ w).alloc (eq _) A).alloc (by omega) C).alloc (by omega) D⟩
 ·rw [<-s1];exact ag _ _
 ·rw [<-s2];exact ag _ _
theorem iS (g:Nat) (b:Bool) (col wait:Int) (tv gv:Value) (w:World) (hg:w.heap[g]?=some (.cells (sk b col wait tv gv) 167 (0,0))) (htv:∃p n cap,tv=.slice p n cap) (hgv:∃p n cap,gv=.slice p n cap) :
  Aa 157 #[.pointer (some ⟨g,0,none⟩)] w fun e w'=>∃c d h,e=.returned (.tuple #[.func (.func 197) #[] #[.pointer (some ⟨d,0,none⟩),.pointer (some ⟨c,0,none⟩)],.func (.func 198) #[] #[.pointer (some ⟨c,0,none⟩)],.func (.func 199) #[] #[.pointer (some ⟨c,0,none⟩),.pointer (some ⟨d,0,none⟩),.pointer (some ⟨h,0,none⟩)]]) /\
   (w'.heap[c]?=some (.cells #[tv] 164 (0,0))/\w'.heap[d]?=some (.cells #[gv] 165 (0,0))/\w'.heap[h]?=some (.cells #[.pointer (some ⟨g,0,none⟩)] 111 (0,0))/\w.heap.size<=c/\w.heap.size<=d/\w.heap.size<=h)/\Below w.heap.size w w':=by
 have gl:=ah hg;have g3:w.cell? ⟨g,3,none⟩=some tv:=aa hg rfl;have g4:w.cell? ⟨g,4,none⟩=some gv:=aa hg rfl;obtain ⟨p1,n1,k1,rfl⟩:=htv;obtain ⟨p2,n2,k2,rfl⟩:=hgv;have a1:=fN g3;have a2:=kw g3;have a3:=oL g3;have b1:=fN g4;have b2:=kw g4;have b3:=oL g4;have hmf:=mkfn
 go_enter Tryz.func157,Tryz.ntmps157
 go_wp2_with fail
 go_region
 all_goals go_wp2_with fail
 ·go_ret3
  obtain ⟨e0,e1,e2,hb⟩:=wI w (.cells #[.pointer (some ⟨g,0,none⟩)] 111) (.cells #[.slice p1 n1 k1] 164) (.cells #[.slice p2 n2 k2] 165);exact ⟨w.heap.size+1,w.heap.size+1+1,w.heap.size,rfl,⟨e1,e2,e0,by omega,by omega,by omega⟩,hb.drew⟩
 ·go_ret3
  obtain ⟨e0,e1,e2,hb⟩:=wI w (.cells #[.pointer (some ⟨g,0,none⟩)] 111) (.cells #[.slice p2 n2 k2] 165) (.cells #[.slice p1 n1 k1] 164);exact ⟨w.heap.size+1+1,w.heap.size+1,w.heap.size,rfl,⟨e2,e1,e0,by omega,by omega,by omega⟩,hb.drew⟩
def lf (t:ByteArray):Int:=Lib.lastIndexByte t 10
theorem wM (t:ByteArray):-1<=lf t/\lf t<t.size:=by
 have:=Lib.lastIdx_spec t 10 t.size;unfold lf Lib.lastIndexByte
 rcases this with ⟨h,_⟩|⟨i,hi,h,_⟩
 ·rw [h];omega
 ·rw [h];omega
def aft (t:ByteArray):ByteArray:=t.extract (lf t+1).toNat t.size
def gP (col wait:Int) (t:ByteArray):Int:=if lf t<0 then col+wait+tw t else tw (aft t)
theorem lA (s:ByteArray) (hs:s.size<4611686018427387904) (w:World) :
  Aa 200 #[.string s,.string ⟨#[10]⟩] w fun e w'=>e=.returned (.int .i64 (lf s))/\w'=w:=xL s ⟨#[10]⟩ rfl hs w
theorem kb (w:World):Aa 59 #[] w fun e w'=>e=.returned (.pointer (some ⟨w.heap.size,0,none⟩))/\w'=w.alloc (.cells (sk false 0 0 (.slice none 0 0) (.slice none 0 0)) 167):=by
 go_enter Tryz.func59,Tryz.ntmps59
 go_wp2_with fail
 go_ret
 exact ⟨rfl,rfl⟩
theorem nv (g:Nat) (b:Bool) (col wait:Int) (tv gv:Value) (w:World) (hg:w.heap[g]?=some (.cells (sk b col wait tv gv) 167 (0,0))) (h0:0<=col) (h1:col<=1152921504606846976) (h2:0<=wait) (h3:wait<=1152921504606846976) :
  Aa 163 #[.pointer (some ⟨g,0,none⟩)] w fun e w'=>e=.returned (.int .i64 (col+wait))/\Below w.heap.size w w':=by
 have g1:w.cell? ⟨g,1,none⟩=some (.int .i64 col):=aa hg rfl;have g2:w.cell? ⟨g,2,none⟩=some (.int .i64 wait):=aa hg rfl
 go_enter Tryz.func163,Tryz.ntmps163
 go_wp2_with fail
 go_quiet (fail)
 go_wp2_with fail
 go_ret
 exact ⟨rfl,Cy (gt _ w) nq⟩
theorem qj (g:Nat) (b:Bool) (col wait:Int) (tv gv:Value) (w:World) (hg:w.heap[g]?=some (.cells (sk b col wait tv gv) 167 (0,0))) :
  Aa 159 #[.pointer (some ⟨g,0,none⟩)] w fun e w'=>e=.returned (.bool (!b))/\w'=w:=by
 have g0:w.cell? ⟨g,0,none⟩=some (.bool b):=aa hg rfl
 go_enter Tryz.func159,Tryz.ntmps159
 go_wp2_with fail
 go_ret
 exact ⟨rfl,rfl⟩
theorem nC (g:Nat) (b:Bool) (col wait n:Int) (tv gv:Value) (w:World) (hg:w.heap[g]?=some (.cells (sk b col wait tv gv) 167 (0,0))) (h0:0<=n) (h1:n<=1048576) (h2:0<=wait) (h3:wait<=1152921504606846976) :
  Aa 160 #[.pointer (some ⟨g,0,none⟩),.int .i64 n] w fun e w'=>e=.returned (.int .i64 0)/\w'=w.setCell ⟨g,2,none⟩ (.int .i64 (wait+n)):=by
 have q1:decide (n<0)=false:=by simp;omega
 have q2:decide (1048576<n)=false:=by simp;omega
 have q3:¬(1048576<n):=by omega
 have q4:¬(n<0):=by omega
 have g2:w.cell? ⟨g,2,none⟩=some (.int .i64 wait):=aa hg rfl;have f2:w.frozen? ⟨g,2,none⟩=false:=aj hg
 go_enter Tryz.func160,Tryz.ntmps160
 go_wp2_with fail
 go_ret
 exact ⟨rfl,rfl⟩
section
variable {β:Type} (enc:β->List Value) (sz:Nat)
variable (hsz:∀x,(enc x).length=sz)
include hsz
end
def Dc.v (d:Dc):Value:=.agg #[.int .u8 d.k,.string d.t,.int .i64 d.b,.int .i64 d.i,.bool d.e]
def Dc.cs (d:Dc):List Value:=[.int .u8 d.k,.string d.t,.int .i64 d.b,.int .i64 d.i,.bool d.e]
theorem Dc.cs_len (d:Dc):d.cs.length=5:=rfl
theorem Dc.cs_one (d:Dc):∀u∈d.cs,u.oneCell'=true:=by
 intro u hu;simp only [Dc.cs,zK,Av,B6] at hu
 rcases hu with rfl|rfl|rfl|rfl|rfl <;> rfl
def dcs (l:List Dc):List Value:=aN Dc.cs l
theorem au (l:List Dc):(dcs l).length=l.length*5:=cN Dc.cs 5 Dc.cs_len l
theorem aH (l:List Dc):∀u∈dcs l,u.oneCell'=true:=by
 intro u hu;obtain ⟨d,_,h⟩:=BG.1 hu;exact d.cs_one u h
def Lay (w:World) (ao:Option Addr) (l:List Dc):Prop:=∀j d,l[j]?=some d->d.t.size<=9223372036854775807/\∃b off,ao=some ⟨b,off,none⟩ /\
 w.cell? ⟨b,off+j*5,none⟩=some (.int .u8 d.k)/\w.cell? ⟨b,off+j*5+1,none⟩=some (.string d.t)/\w.cell? ⟨b,off+j*5+2,none⟩=some (.int .i64 d.b)/\w.cell? ⟨b,off+j*5+3,none⟩=some (.int .i64 d.i)/\w.cell? ⟨b,off+j*5+4,none⟩=some (.bool d.e)
theorem Lay.kp {S:Nat->Prop}{w w':World}{ao:Option Addr}{l:List Dc}(h:Lay w ao l) (hb:Kp S w w') (hS:∀a,ao=some a->¬S a.block):Lay w' ao l:=by
 intro j a ha;obtain ⟨h0,b,off,h1,c0,c1,c2,c3,c4⟩:=h j a ha;have hlt:=zy _ _ c0;have e:w'.heap[b]?=w.heap[b]?:=hb.block b hlt (hS _ h1);exact ⟨h0,b,off,h1,(zG (a:=⟨b,_,none⟩) e).trans c0,(zG (a:=⟨b,_,none⟩) e).trans c1,(zG (a:=⟨b,_,none⟩) e).trans c2,(zG (a:=⟨b,_,none⟩) e).trans c3,(zG (a:=⟨b,_,none⟩) e).trans c4⟩
theorem Lay.below {w w':World}{ao:Option Addr}{l:List Dc}(h:Lay w ao l) (hb:Below w.heap.size w w'):Lay w' ao l:=h.kp (Kp.of_below (S:=fun _=>False) hb) (fun _ _ h=>h)
theorem Lay.row {w:World}{B:Nat}{v:Value}{n:Nat}{l:List Dc}(h:w.ownsRow B 57 5 v n (dcs l)) (ht:∀d∈l,d.t.size<=9223372036854775807):∃ao cap,v=.slice ao l.length cap/\n=l.length/\Lay w ao l/\(ao=none\/∃g,ao=some ⟨g,0,none⟩/\B<=g/\g<w.heap.size)/\l.length<=cap/\cap<=maxLen:=by
 have hn:n=l.length:=by have:=h.1;rw [au] at this;omega
 subst hn
 rcases h.2 with ⟨rfl,h0⟩|⟨g,cap,cur,rfl,hb,hg,h3,h4,h5,h6⟩
 ·have:l=[]:=zI h0;subst this;exact ⟨none,0,rfl,rfl,fun j d h=>by simp at h,.inl rfl,zx _,zx _⟩
 ·refine ⟨some ⟨g,0,none⟩,cap,rfl,rfl,?_,.inr ⟨g,rfl,hb,ah hg⟩,h3,h4⟩;intro j d hj
  have hc:∀(k:Nat) (u:Value),(dcs l)[k]?=some u->w.cell? ⟨g,k,none⟩=some u:=fun k u hu=>by
   have:=h.cells (g:=g) rfl k u hu;rw [AM,zC] at this;exact this
  refine ⟨ht d (Ah hj),g,0,rfl,?_,?_,?_,?_,?_⟩
  ·rw [zC];exact hc _ _ (aD Dc.cs 5 Dc.cs_len l j 0 d _ hj rfl)
  ·rw [zC];exact hc _ _ (aD Dc.cs 5 Dc.cs_len l j 1 d _ hj rfl)
  ·rw [zC];exact hc _ _ (aD Dc.cs 5 Dc.cs_len l j 2 d _ hj rfl)
  ·rw [zC];exact hc _ _ (aD Dc.cs 5 Dc.cs_len l j 3 d _ hj rfl)
  ·rw [zC];exact hc _ _ (aD Dc.cs 5 Dc.cs_len l j 4 d _ hj rfl)
end Go.Proofs.YtpdlohfdjiaegaaGreatDoor.Lw
namespace Go.Proofs.YtpdlohfdjiaegaaGreatDoor.Lw
open Go.Proofs.YtpdlohfdjiaegaaGreatDoor.Lx
open Go.RowKit
variable {l:List Dc}{o:Int}{j:Nat}
theorem tm (c:UInt8) (w:World):Aa 245 #[.int .u8 (c.toNat:Int)] w fun e w'=>e=.returned (.bool (edg c))/\w'=w:=by
 have h1:((c.toNat:Int) == 32)=(c == 32):=by revert c;exact qN (by decide +kernel)
 have h2:((c.toNat:Int) == 10)=(c == 10):=by revert c;exact qN (by decide +kernel)
 have e:edg c=((c.toNat:Int) == 32 || (c.toNat:Int) == 10):=by rw [h1,h2];rfl
 rw [e];clear e h1 h2
 generalize (c.toNat:Int)=z
 go_enter Tryz.func245,Tryz.ntmps245
 go_wp2_with fail
 all_goals (go_ret;simp_all)
theorem kQ (n:Int) (w:World):Aa 229 #[.int .i64 n] w fun e w'=>e=.returned (.bool (rtN n))/\w'=w:=by
 have e:rtN n=(decide (0<=n) && decide (n<=1000)):=rfl;rw [e];clear e
 go_enter Tryz.func229,Tryz.ntmps229
 go_wp2_with fail
 all_goals (go_ret;simp_all)
 all_goals omega
theorem qw (t:ByteArray) (ht:t.size<=9223372036854775807) (w:World):Aa 228 #[.string t] w fun e w'=>e=.returned (.bool (rtT t))/\w'=w:=by
 by_cases h0:t.size=0
 ·have e0:t=⟨#[]⟩:=by
   apply fp
   exact zI (by rw [iO];exact h0)
  subst e0
  go_enter Tryz.func228,Tryz.ntmps228
  go_wp2_with fail
  go_ret
  exact ⟨rfl,rfl⟩
 ·have hne:¬t.toList=[]:=by
   rw [Lib.toList_data];intro hl;exact absurd (by have:=iO t;rw [lsb,hl] at this;simpa using this.symm) h0
  by_cases h1:t.size<=65535
  ·have hlt:0<t.size:=by omega
   have hlt2:t.size-1<t.size:=by omega
   have HE:Hid (rtT t=(!edg t[0] && !edg (t[t.size-1]))):=by
    show _=_
    unfold rtT;have a0:(lsb t).getD 0 0=t[0]:=(Lib.getD_at t 0 hlt).symm;have a1:(lsb t).getD (t.size-1) 0=t[t.size-1]:=(Lib.getD_at t (t.size-1) hlt2).symm;rw [a0,a1];simp [h1,show 1<=t.size by omega]
   go_enter Tryz.func228,Tryz.ntmps228
   go_wp2_with (go_at_call 245;refine (tm _ _).mono ?_;rintro e w1 ⟨rfl,rfl⟩)
   all_goals (go_ret;rw [HE.out];clear HE;refine ⟨?_,rfl⟩;simp_all)
  ·go_enter Tryz.func228,Tryz.ntmps228
   go_wp2_with fail
   go_ret
   refine ⟨?_,rfl⟩;simp [rtT,h1]
theorem mI (t:ByteArray) (b i:Int) (e:Bool) (ht:t.size<=9223372036854775807) (w:World):Aa 194 #[.agg #[.int .u8 1,.string t,.int .i64 b,.int .i64 i,.bool e]] w fun x w'=>x=.returned (.bool (rtT t && (b == 0 && (i == 0 && !e))))/\Below w.heap.size w w':=by
 go_enter Dh,CV
 go_wp2_with (go_at_call 228;refine (qw _ ht _).mono ?_;rintro e w1 ⟨rfl,rfl⟩)
 all_goals go_ret
 all_goals (refine ⟨by simp_all,?_⟩;repeat (first|exact gt _ _|refine Bm ?_ (eq _) _|refine BU ?_ (by simp) _|refine CX ?_))
theorem py (t:ByteArray) (b i:Int) (e:Bool) (w:World):Aa 194 #[.agg #[.int .u8 3,.string t,.int .i64 b,.int .i64 i,.bool e]] w fun x w'=>x=.returned (.bool (rtN b && (t.toList == [] && (i == 0 && !e))))/\Below w.heap.size w w':=by
 go_enter Dh,CV
 go_wp2_with (go_at_call 229;refine (kQ _ _).mono ?_;rintro e w1 ⟨rfl,rfl⟩)
 all_goals go_ret
 all_goals (refine ⟨by simp_all,?_⟩;repeat (first|exact gt _ _|refine Bm ?_ (eq _) _|refine BU ?_ (by simp) _|refine CX ?_))
theorem pA (t:ByteArray) (b i:Int) (e:Bool) (w:World):Aa 194 #[.agg #[.int .u8 6,.string t,.int .i64 b,.int .i64 i,.bool e]] w fun x w'=>x=.returned (.bool (rtN i && (t.toList == [] && b == 0)))/\Below w.heap.size w w':=by
 go_enter Dh,CV
 go_wp2_with (go_at_call 229;refine (kQ _ _).mono ?_;rintro e w1 ⟨rfl,rfl⟩)
 all_goals go_ret
 all_goals (refine ⟨by simp_all,?_⟩;repeat (first|exact gt _ _|refine Bm ?_ (eq _) _|refine BU ?_ (by simp) _|refine CX ?_))
theorem mH (k:Int) (hk:k=2\/k=4\/k=5\/k=7) (t:ByteArray) (b i:Int) (e:Bool) (w:World):Aa 194 #[.agg #[.int .u8 k,.string t,.int .i64 b,.int .i64 i,.bool e]] w fun x w'=>x=.returned (.bool (t.toList == [] && (b == 0 && (i == 0 && !e))))/\Below w.heap.size w w':=by
 rcases hk with rfl|rfl|rfl|rfl
 all_goals
  go_enter Dh,CV
  go_wp2_with fail
  all_goals go_ret
  all_goals (refine ⟨by simp_all,?_⟩;repeat (first|exact gt _ _|refine Bm ?_ (eq _) _|refine BU ?_ (by simp) _|refine CX ?_))
theorem mJ (k:Int) (h1:k≠1) (h2:k≠2) (h3:k≠3) (h4:k≠4) (h5:k≠5) (h6:k≠6) (h7:k≠7) (t:ByteArray) (b i:Int) (e:Bool) (w:World):Aa 194 #[.agg #[.int .u8 k,.string t,.int .i64 b,.int .i64 i,.bool e]] w fun x w'=>x=.returned (.bool false)/\Below w.heap.size w w':=by
 go_enter Dh,CV
 go_wp2_with fail
 all_goals go_ret
 all_goals (refine ⟨by simp_all,?_⟩;repeat (first|exact gt _ _|refine Bm ?_ (eq _) _|refine BU ?_ (by simp) _|refine CX ?_))
theorem uq (t:ByteArray):(t.toList == [])=decide (t=bE):=by
 rw [AR,Ch,zM,Lib.toList_data];constructor
 ·intro h;exact fp h
 ·rintro rfl;rfl
theorem pB (d:Dc) (ht:d.t.size<=9223372036854775807) (w:World):Aa 194 #[d.v] w fun x w'=>x=.returned (.bool (rt d))/\Below w.heap.size w w':=by
 obtain ⟨k,t,b,i,e⟩:=d
 by_cases k1:k=1
 ·subst k1
  have e1:rt ⟨1,t,b,i,e⟩=(rtT t && (b == 0 && (i == 0 && !e))):=by
   unfold rt;rw [zw rfl]
   congr 1
   rw [AR];simp [Dc.mk.injEq]
  rw [e1];exact mI t b i e ht w
 by_cases k3:k=3
 ·subst k3
  have e1:rt ⟨3,t,b,i,e⟩=(rtN b && (t.toList == [] && (i == 0 && !e))):=by
   unfold rt;rw [zu (by show ¬(3:Int)=1;decide),zw rfl,uq]
   congr 1
   rw [AR];simp [Dc.mk.injEq]
  rw [e1];exact py t b i e w
 by_cases k6:k=6
 ·subst k6
  have e1:rt ⟨6,t,b,i,e⟩=(rtN i && (t.toList == [] && b == 0)):=by
   unfold rt;rw [zu (by show ¬(6:Int)=1;decide),zu (by show ¬(6:Int)=3;decide),zw rfl,uq]
   congr 1
   rw [AR];simp [Dc.mk.injEq]
  rw [e1];exact pA t b i e w
 by_cases kz:k=2\/k=4\/k=5\/k=7
 ·have e1:rt ⟨k,t,b,i,e⟩=(t.toList == [] && (b == 0 && (i == 0 && !e))):=by
   unfold rt;rw [zu k1,zu k3,zu k6,zw kz,uq];rw [AR];simp [Dc.mk.injEq]
  rw [e1];exact mH k kz t b i e w
 ·have e1:rt ⟨k,t,b,i,e⟩=false:=by
   unfold rt;rw [zu k1,zu k3,zu k6,zu kz]
  rw [e1];simp only [not_or] at kz;exact mJ k k1 kz.1 k3 kz.2.1 kz.2.2.1 k6 kz.2.2.2 t b i e w
theorem oG (c:UInt8):edg c=((c.toNat:Int) == 32 || (c.toNat:Int) == 10):=by
 revert c;exact qN (by decide +kernel)
theorem uL (t:ByteArray) (b i:Int) (e:Bool) (ht:t.size<=9223372036854775807) (w:World):Aa 27 #[.agg #[.int .u8 1,.string t,.int .i64 b,.int .i64 i,.bool e]] w fun x w'=>x=.returned (.bool (rtT t && (b == 0 && (i == 0 && !e))))/\Below w.heap.size w w':=by
 obtain ⟨r,hr⟩:∃r,rtT t=r:=⟨_,rfl⟩;have HR:Hid (rtT t=r):=hr;rw [hr];clear hr
 by_cases h0:t.size=0
 ·have q0:(t.size:Int)<1:=by omega
  have HF:Hid (r=false):=by show _=_;rw [<-HR.out];simp [rtT,h0]
  go_enter Tryz.func27,Tryz.ntmps27
  go_wp2_with fail
  go_ret
  rw [HF.out];refine ⟨rfl,?_⟩
  repeat (first|exact gt _ _|refine Bm ?_ (by simp) _|refine BU ?_ (by simp) _)
 ·have q0:¬(t.size:Int)<1:=by omega
  by_cases h1:65535<t.size
  ·have q1:(65535:Int)<t.size:=by omega
   have HF:Hid (r=false):=by show _=_;rw [<-HR.out];simp [rtT];omega
   go_enter Tryz.func27,Tryz.ntmps27
   go_wp2_with fail
   go_ret
   rw [HF.out];refine ⟨rfl,?_⟩
   repeat (first|exact gt _ _|refine Bm ?_ (by simp) _|refine BU ?_ (by simp) _)
  ·have q1:¬(65535:Int)<t.size:=by omega
   have hlt:0<t.size:=by omega
   have hlt2:t.size-1<t.size:=by omega
   obtain ⟨c0,hc0⟩:∃c,t[0]=c:=⟨_,rfl⟩;obtain ⟨c1,hc1⟩:∃c,t[t.size-1]=c:=⟨_,rfl⟩
   have HE:Hid (r=(!((c0.toNat:Int) == 32 || (c0.toNat:Int) == 10) && !((c1.toNat:Int) == 32 || (c1.toNat:Int) == 10))):=by
    show _=_
    rw [<-HR.out,<-oG,<-oG];unfold rtT;have a0:(lsb t).getD 0 0=t[0]:=(Lib.getD_at t 0 hlt).symm;have a1:(lsb t).getD (t.size-1) 0=t[t.size-1]:=(Lib.getD_at t (t.size-1) hlt2).symm;rw [a0,a1,hc0,hc1];simp [show 1<=t.size by omega,show t.size<=65535 by omega]
   clear HR
   go_enter Tryz.func27,Tryz.ntmps27
   go_wp2_with fail
   all_goals (go_ret;(try rw [HE.out]);clear HE;refine ⟨by simp_all,?_⟩;repeat (first|exact gt _ _|refine Bm ?_ (by simp) _|refine BU ?_ (by simp) _))
theorem fK {d:Dc}(hj:l[j]?=some d):frm o j (l.drop j)=if rt d=true/\0<=o+dep d.k then frm (o+dep d.k) (j+1) (l.drop (j+1)) else some j:=by
 obtain ⟨h1,h2⟩:=zv.1 hj;rw [Ad h1,h2];rfl
theorem oA (hj:l.length<=j):frm o j (l.drop j)=if 0<o then some j else none:=by
 rw [AO hj];rfl
def ckr:Option Nat->Int × Int
 |some j=>(70,(j:Int))
 |none=>(0,0)
theorem tU (h:¬2097152<l.length):chk l=ckr (frm 0 0 l):=by
 unfold chk;rw [zu h];cases frm 0 0 l <;> rfl
theorem qG (ao:Option Addr) (l:List Dc) (cap:Nat) (w:World) (hL:Lay w ao l) (hn:l.length<=9223372036854775807) :
  Aa 152 #[.slice ao l.length cap] w fun e w'=>e=.returned (.tuple #[.int .i64 (chk l).1,.int .i64 (chk l).2])/\Below w.heap.size w w':=by
 by_cases hm:2097152<l.length
 ·have q0:(2097152:Int)<l.length:=by omega
  have HC:Hid (chk l=(2,0)):=by show _=_;unfold chk;rw [zw hm]
  go_enter Tryz.func152,Tryz.ntmps152
  go_wp2_with fail
  go_ret2
  rw [HC.out];exact ⟨rfl,gt _ _⟩
 have q0:¬(2097152:Int)<l.length:=by omega
 have HC:Hid (chk l=ckr (frm 0 0 l)):=tU hm;have HL:Hid (Lay w ao l):=hL;clear hL
 go_enter Tryz.func152,Tryz.ntmps152
 go_wp2_with fail
 go_loopw [4,12] (fun o j wr=>∃(k:Nat) (z:Int),k<=l.length/\o=.int .i64 z/\j=.int .i64 k/\0<=z/\z<=k/\Hid (frm z k (l.drop k)=frm 0 0 l/\Below w.heap.size w wr)) (fun _ j _=>l.length-(intOf j).toNat)
 case atStart=>exact ⟨0,0,by omega,rfl,rfl,by omega,by omega,rfl,gt _ _⟩
 case round=>
  obtain ⟨k,z,hk,rfl,rfl,hz0,hz1,HI⟩:=hrel
  by_cases hlt:k<l.length
  ·have q1:(k:Int)<l.length:=by omega
   obtain ⟨d,hd⟩:∃d,l[k]?=some d:=⟨_,hH hlt⟩;obtain ⟨ht,b,off,rfl,c0,c1,c2,c3,c4⟩:=(HL.out.below HI.out.2) k d hd
   have HS:Hid ((if rt d=true/\0<=z+dep d.k then frm (z+dep d.k) (k+1) (l.drop (k+1)) else some k)=frm 0 0 l):=by
    show _=_;rw [<-fK hd];exact HI.out.1
   have HB:Hid (Ab w wr):=HI.out.2;have HR:Hid (∀W,Aa 194 #[d.v] W fun x w'=>x=.returned (.bool (rt d))/\Ab W w'):=fun W=>pB d ht W
   clear HI hd;obtain ⟨dk,dt,db,di,de⟩:=d;simp only [Dc.v] at HR;simp only at c0 c1 c2 c3 c4 HS ht
   generalize rt ⟨dk,dt,db,di,de⟩=r at *
   have HX:Hid (r=true->0<=z+dep dk->frm (z+dep dk) (k+1) (l.drop (k+1))=frm 0 0 l):=fun h1 h2=>by rw [<-HS.out,zw ⟨h1,h2⟩]
   have HY:Hid (¬(r=true/\0<=z+dep dk)->chk l=(70,(k:Int))):=fun h=>by rw [HC.out,<-HS.out,zu h];rfl
   clear HS
   have HA:Hid (∀W w1,W=wr.alloc (.cells #[.int .u8 dk,.string dt,.int .i64 db,.int .i64 di,.bool de] 57)->Ab W w1->Ab w w1):=fun W w1 hW h=>by
    subst hW;exact (HB.out.alloc HB.out.size _).trans (h.mono (by rw [ge];have:=HB.out.size;omega))
   by_cases k6:dk=6
   ·subst k6;have e6:z+dep 6=z+1:=rfl;rw [e6] at HX HY;cases r
    ·have HQ:Hid (chk l=(70,(k:Int))):=HY.out (by simp);clear HX HY
     go_wp2_with (go_at_call 194;refine (HR.out _).mono ?_;rintro e w1 ⟨rfl,hb1⟩)
     all_goals (go_ret2;rw [HQ.out];exact ⟨rfl,HA.out _ _ rfl hb1⟩)
    ·have HQ:Hid (frm (z+1) (k+1) (l.drop (k+1))=frm 0 0 l):=HX.out rfl (by omega);clear HX HY
     go_wp2_with (go_at_call 194;refine (HR.out _).mono ?_;rintro e w1 ⟨rfl,hb1⟩)
     exact ⟨⟨k+1,z+1,hlt,by go_num,by go_num,by omega,by omega,HQ.out,HA.out _ _ rfl hb1⟩,by simp [intOf];omega⟩
   by_cases k7:dk=7
   ·subst k7;have e6:z+dep 7=z-1:=rfl;rw [e6] at HX HY
    by_cases hz:0<z
    ·cases r
     ·have HQ:Hid (chk l=(70,(k:Int))):=HY.out (by simp);clear HX HY
      go_wp2_with (go_at_call 194;refine (HR.out _).mono ?_;rintro e w1 ⟨rfl,hb1⟩)
      all_goals (go_ret2;rw [HQ.out];exact ⟨rfl,HA.out _ _ rfl hb1⟩)
     ·have HQ:Hid (frm (z-1) (k+1) (l.drop (k+1))=frm 0 0 l):=HX.out rfl (by omega);clear HX HY
      go_wp2_with (go_at_call 194;refine (HR.out _).mono ?_;rintro e w1 ⟨rfl,hb1⟩)
      exact ⟨⟨k+1,z-1,hlt,by go_num,by go_num,by omega,by omega,HQ.out,HA.out _ _ rfl hb1⟩,by simp [intOf];omega⟩
    ·obtain rfl:z=0:=by omega
     have HQ:Hid (chk l=(70,(k:Int))):=HY.out (by omega);clear HX HY
     go_wp2_with (go_at_call 194;refine (HR.out _).mono ?_;rintro e w1 ⟨rfl,hb1⟩)
     all_goals (go_ret2;rw [HQ.out];exact ⟨rfl,HA.out _ _ rfl (gt _ _)⟩)
   ·have e6:z+dep dk=z:=by simp [dep,k6,k7]
    rw [e6] at HX HY;cases r
    ·have HQ:Hid (chk l=(70,(k:Int))):=HY.out (by simp);clear HX HY
     go_wp2_with (go_at_call 194;refine (HR.out _).mono ?_;rintro e w1 ⟨rfl,hb1⟩)
     all_goals (go_ret2;rw [HQ.out];exact ⟨rfl,HA.out _ _ rfl hb1⟩)
    ·have HQ:Hid (frm z (k+1) (l.drop (k+1))=frm 0 0 l):=HX.out rfl (by omega);clear HX HY
     go_wp2_with (go_at_call 194;refine (HR.out _).mono ?_;rintro e w1 ⟨rfl,hb1⟩)
     exact ⟨⟨k+1,z,hlt,by go_num,by go_num,by omega,by omega,HQ.out,HA.out _ _ rfl hb1⟩,by simp [intOf];omega⟩
  ·obtain rfl:k=l.length:=by omega
   have q1:¬((l.length:Int)<l.length):=by omega
   have he:=HI.out.1;rw [oA (eq _)] at he;have HB:Hid (Ab w wr):=HI.out.2
   by_cases hz:0<z
   ·have HQ:Hid (chk l=(70,(l.length:Int))):=by show _=_;rw [HC.out,<-he,zw hz];rfl
    clear HI he
    go_wp2_with fail
    go_ret2
    rw [HQ.out];exact ⟨rfl,HB.out⟩
   ·have HQ:Hid (chk l=(0,0)):=by show _=_;rw [HC.out,<-he,zu hz];rfl
    clear HI he
    go_wp2_with fail
    go_ret2
    rw [HQ.out];exact ⟨rfl,HB.out⟩
theorem kO (ao bo:Option Addr) (a b:List Dc) (ca cb:Nat) (w:World) (hA:Lay w ao a) (hB:Lay w bo b) (ha:a.length<=9223372036854775807) (hb:b.length<=9223372036854775807) :
  Aa 18 #[.slice ao a.length ca,.slice bo b.length cb] w fun e w'=>e=.returned (.bool (decide (a=b)))/\Below w.heap.size w w':=by
 obtain ⟨r,hr⟩:∃r,decide (a=b)=r:=⟨_,rfl⟩;have HR:Hid (decide (a=b)=r):=hr;rw [hr];clear hr
 by_cases hl:a.length=b.length
 ·rw [<-hl];have HLn:Hid (a.length=b.length):=hl;clear hl hb;have HA:Hid (Lay w ao a):=hA;have HB:Hid (Lay w bo b):=hB;clear hA hB
  go_enter Tryz.func18,Tryz.ntmps18
  go_wp2_with fail
  go_loopw [5] (fun i wr=>∃k:Nat,k<=a.length/\i=.int .i64 k/\Hid ((∀j,j<k->a[j]?=b[j]?)/\Below w.heap.size w wr)) (fun i _=>a.length-(intOf i).toNat)
  case atStart=>exact ⟨0,by omega,rfl,fun j hj=>by omega,gt _ _⟩
  case round=>
   obtain ⟨k,hk,rfl,HI⟩:=hrel
   by_cases hlt:k<a.length
   ·have q1:(k:Int)<a.length:=by omega
    have q3:(0:Int)<=k:=by omega
    have hlt2:k<b.length:=by have:=HLn.out;omega
    obtain ⟨d,hd⟩:∃d,a[k]?=some d:=⟨_,hH hlt⟩;obtain ⟨d',hd'⟩:∃d,b[k]?=some d:=⟨_,hH hlt2⟩;obtain ⟨_,ba,oa,rfl,c0,c1,c2,c3,c4⟩:=(HA.out.below HI.out.2) k d hd;obtain ⟨_,bb,ob,rfl,e0,e1,e2,e3,e4⟩:=(HB.out.below HI.out.2) k d' hd'
    have HN:Hid (d≠d'->r=false):=fun h=>by
     rw [<-HR.out,zZ];rintro rfl;rw [hd] at hd';exact h (by cases hd';rfl)
    have HE:Hid (d=d'->(∀j,j<k+1->a[j]?=b[j]?)):=fun h j hj=>by
     by_cases e:j=k
     ·subst e;rw [hd,hd',h]
     ·exact HI.out.1 j (by omega)
    have HW:Hid (Ab w wr):=HI.out.2;clear HI hd hd'
    by_cases hdd:d=d'
    ·have HE':Hid (∀j,j<k+1->a[j]?=b[j]?):=HE.out hdd;subst hdd;clear HE HN;obtain ⟨dk,dt,db,di,de⟩:=d;simp only at c0 c1 c2 c3 c4 e0 e1 e2 e3 e4
     go_wp2_with fail
     go_quiet (fail)
     go_wp2_with fail
     exact ⟨⟨k+1,hlt,by go_num,HE'.out,Cy HW.out _⟩,by simp [intOf];omega⟩
    ·have HF:Hid (r=false):=HN.out hdd;have HD:Hid (d≠d'):=hdd;clear HE HN hdd;obtain ⟨dk,dt,db,di,de⟩:=d;obtain ⟨dk',dt',db',di',de'⟩:=d';simp only at c0 c1 c2 c3 c4 e0 e1 e2 e3 e4
     by_cases x0:dk=dk'
     ·subst x0
      by_cases x1:dt=dt'
      ·subst x1
       by_cases x2:db=db'
       ·subst x2
        by_cases x3:di=di'
        ·subst x3
         by_cases x4:de=de'
         ·subst x4;exact absurd rfl HD.out
         ·clear HD;have y4:(de == de')=false:=by simpa using x4
          go_wp2_with fail
          go_quiet (fail)
          go_wp2_with fail
          go_ret
          rw [HF.out];exact ⟨rfl,Cy HW.out _⟩
        ·clear HD;have y3:(di == di')=false:=by simpa using x3
         go_wp2_with fail
         go_quiet (fail)
         go_wp2_with fail
         go_ret
         rw [HF.out];exact ⟨rfl,Cy HW.out _⟩
       ·clear HD;have y2:(db == db')=false:=by simpa using x2
        go_wp2_with fail
        go_quiet (fail)
        go_wp2_with fail
        go_ret
        rw [HF.out];exact ⟨rfl,Cy HW.out _⟩
      ·clear HD;have y1:=io x1;clear x1
       go_wp2_with fail
       go_quiet (fail)
       go_wp2_with fail
       go_ret
       rw [HF.out];exact ⟨rfl,Cy HW.out _⟩
     ·clear HD;have y0:(dk == dk')=false:=by simpa using x0
      go_wp2_with fail
      go_quiet (fail)
      go_wp2_with fail
      go_ret
      rw [HF.out];exact ⟨rfl,Cy HW.out _⟩
   ·obtain rfl:k=a.length:=by omega
    have q1:¬((a.length:Int)<a.length):=by omega
    have HT:Hid (r=true):=by
     show _=_
     rw [<-HR.out,zM]
     apply List.ext_getElem?
     intro j
     by_cases hj:j<a.length
     ·exact HI.out.1 j hj
     ·rw [List.getElem?_eq_none (by omega),List.getElem?_eq_none (by have:=HLn.out;omega)]
    have HW:Hid (Ab w wr):=HI.out.2;clear HI
    go_wp2_with fail
    go_ret
    rw [HT.out];exact ⟨rfl,HW.out⟩
 ·have q0:((a.length:Int) != b.length)=true:=by
   have:¬(a.length:Int)=b.length:=by omega
   simp [bne,this]
  have HF:Hid (r=false):=by
   show _=_
   rw [<-HR.out,zZ];rintro rfl;exact hl rfl
  clear hA hB
  go_enter Tryz.func18,Tryz.ntmps18
  go_wp2_with fail
  go_ret
  rw [HF.out];exact ⟨rfl,gt _ _⟩
end Go.Proofs.YtpdlohfdjiaegaaGreatDoor.Lw
