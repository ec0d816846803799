import Derived.OwnWalk
import Derived.Lib.LaidTab
import Derived.Lib.ItoaWalk
import Derived.Test.YtpdlohfdjiaegaaGreatDoorM14
set_option linter.unusedVariables false
set_option linter.unusedSimpArgs false
set_option maxHeartbeats 1000000
namespace Go.Proofs.YtpdlohfdjiaegaaGreatDoor.Lw
open Go.Proofs.YtpdlohfdjiaegaaGreatDoor.Lx
open Go.RowKit
open Go.Lib (strCells strCells_length)
variable {w:World}{l:List Dc}
theorem zH (w:World) (A C D:Obj):(((w.alloc A).alloc C).alloc D).heap[w.heap.size]?=some A/\(((w.alloc A).alloc C).alloc D).heap[w.heap.size+1]?=some C/\(((w.alloc A).alloc C).alloc D).heap[w.heap.size+1+1]?=some D/\Below w.heap.size w (((w.alloc A).alloc C).alloc D):=by
 have s1:(w.alloc A).heap.size=w.heap.size+1:=World.size_alloc w A;have s2:((w.alloc A).alloc C).heap.size=w.heap.size+1+1:=by rw [World.size_alloc,s1]
 refine ⟨eE _ _ _ _ (eE _ _ _ _ (am _ _)),eE _ _ _ _ ?_,?_,(((Below.refl _ w).alloc (Nat.le_refl _) A).alloc (by omega) C).alloc (by omega) D⟩
 ·rw [<-s1];exact am _ _
 ·rw [<-s2];exact am _ _
theorem jP (g:Nat) (b:Bool) (col wait:Int) (tv gv:Value) (w:World) (hg:w.heap[g]?=some (.cells (sk b col wait tv gv) 167 (0,0))) (htv:∃p n cap,tv=.slice p n cap) (hgv:∃p n cap,gv=.slice p n cap) :
  Da 157 #[.pointer (some ⟨g,0,none⟩)] w fun e w'=>∃c d h,e=.returned (.tuple #[.func (.func 197) #[] #[.pointer (some ⟨d,0,none⟩),.pointer (some ⟨c,0,none⟩)],.func (.func 198) #[] #[.pointer (some ⟨c,0,none⟩)],.func (.func 199) #[] #[.pointer (some ⟨c,0,none⟩),.pointer (some ⟨d,0,none⟩),.pointer (some ⟨h,0,none⟩)]]) /\
   (w'.heap[c]?=some (.cells #[tv] 164 (0,0))/\w'.heap[d]?=some (.cells #[gv] 165 (0,0))/\w'.heap[h]?=some (.cells #[.pointer (some ⟨g,0,none⟩)] 111 (0,0))/\w.heap.size<=c/\w.heap.size<=d/\w.heap.size<=h)/\Below w.heap.size w w':=by
 have gl:=ap hg;have g3:w.cell? ⟨g,3,none⟩=some tv:=aa hg rfl;have g4:w.cell? ⟨g,4,none⟩=some gv:=aa hg rfl;obtain ⟨p1,n1,k1,rfl⟩:=htv;obtain ⟨p2,n2,k2,rfl⟩:=hgv;have a1:=gM g3;have a2:=mp g3;have a3:=rm g3;have b1:=gM g4;have b2:=mp g4;have b3:=rm g4;have hmf:=mkfn
 go_enter Tryz.func157,Tryz.ntmps157
 go_wp2_with fail
 go_region
 all_goals go_wp2_with fail
 ·go_ret3
  obtain ⟨e0,e1,e2,hb⟩:=zH w (.cells #[.pointer (some ⟨g,0,none⟩)] 111) (.cells #[.slice p1 n1 k1] 164) (.cells #[.slice p2 n2 k2] 165);exact ⟨w.heap.size+1,w.heap.size+1+1,w.heap.size,rfl,⟨e1,e2,e0,by omega,by omega,by omega⟩,hb.drew⟩
 ·go_ret3
  obtain ⟨e0,e1,e2,hb⟩:=zH w (.cells #[.pointer (some ⟨g,0,none⟩)] 111) (.cells #[.slice p2 n2 k2] 165) (.cells #[.slice p1 n1 k1] 164);exact ⟨w.heap.size+1+1,w.heap.size+1,w.heap.size,rfl,⟨e2,e1,e0,by omega,by omega,by omega⟩,hb.drew⟩
def lf (t:ByteArray):Int:=Lib.lastIndexByte t 10
theorem zM (t:ByteArray):-1<=lf t/\lf t<t.size:=by
 have:=Lib.lastIdx_spec t 10 t.size;unfold lf Lib.lastIndexByte
 rcases this with ⟨h,_⟩|⟨i,hi,h,_⟩
 ·rw [h];omega
 ·rw [h];omega
def aft (t:ByteArray):ByteArray:=t.extract (lf t+1).toNat t.size
def iK (col wait:Int) (t:ByteArray):Int:=if lf t<0 then col+wait+tw t else tw (aft t)
theorem nF (s:ByteArray) (hs:s.size<4611686018427387904) (w:World) :
  Da 200 #[.string s,.string ⟨#[10]⟩] w fun e w'=>e=.returned (.int .i64 (lf s))/\w'=w:=A0 s ⟨#[10]⟩ rfl hs w
theorem lP (w:World):Da 59 #[] w fun e w'=>e=.returned (.pointer (some ⟨w.heap.size,0,none⟩))/\w'=w.alloc (.cells (sk false 0 0 (.slice none 0 0) (.slice none 0 0)) 167):=by
 go_enter Tryz.func59,Tryz.ntmps59
 go_wp2_with fail
 go_ret
 exact ⟨rfl,rfl⟩
theorem pK (g:Nat) (b:Bool) (col wait:Int) (tv gv:Value) (w:World) (hg:w.heap[g]?=some (.cells (sk b col wait tv gv) 167 (0,0))) (h0:0<=col) (h1:col<=1152921504606846976) (h2:0<=wait) (h3:wait<=1152921504606846976) :
  Da 163 #[.pointer (some ⟨g,0,none⟩)] w fun e w'=>e=.returned (.int .i64 (col+wait))/\Below w.heap.size w w':=by
 have g1:w.cell? ⟨g,1,none⟩=some (.int .i64 col):=aa hg rfl;have g2:w.cell? ⟨g,2,none⟩=some (.int .i64 wait):=aa hg rfl
 go_enter Tryz.func163,Tryz.ntmps163
 go_wp2_with fail
 go_quiet (fail)
 go_wp2_with fail
 go_ret
 exact ⟨rfl,below_drewN (Below.refl _ w) nq⟩
theorem sZ (g:Nat) (b:Bool) (col wait:Int) (tv gv:Value) (w:World) (hg:w.heap[g]?=some (.cells (sk b col wait tv gv) 167 (0,0))) :
  Da 159 #[.pointer (some ⟨g,0,none⟩)] w fun e w'=>e=.returned (.bool (!b))/\w'=w:=by
 have g0:w.cell? ⟨g,0,none⟩=some (.bool b):=aa hg rfl
 go_enter Tryz.func159,Tryz.ntmps159
 go_wp2_with fail
 go_ret
 exact ⟨rfl,rfl⟩
theorem pR (g:Nat) (b:Bool) (col wait n:Int) (tv gv:Value) (w:World) (hg:w.heap[g]?=some (.cells (sk b col wait tv gv) 167 (0,0))) (h0:0<=n) (h1:n<=1048576) (h2:0<=wait) (h3:wait<=1152921504606846976) :
  Da 160 #[.pointer (some ⟨g,0,none⟩),.int .i64 n] w fun e w'=>e=.returned (.int .i64 0)/\w'=w.setCell ⟨g,2,none⟩ (.int .i64 (wait+n)):=by
 have q1:decide (n<0)=false:=by simp;omega
 have q2:decide (1048576<n)=false:=by simp;omega
 have q3:¬(1048576<n):=by omega
 have q4:¬(n<0):=by omega
 have g2:w.cell? ⟨g,2,none⟩=some (.int .i64 wait):=aa hg rfl;have f2:w.frozen? ⟨g,2,none⟩=false:=ak hg
 go_enter Tryz.func160,Tryz.ntmps160
 go_wp2_with fail
 go_ret
 exact ⟨rfl,rfl⟩
section
variable {β:Type} (enc:β->List Value) (sz:Nat)
variable (hsz:∀x,(enc x).length=sz)
include hsz
end
def Dc.v (d:Dc):Value:=.agg #[.int .u8 d.k,.string d.t,.int .i64 d.b,.int .i64 d.i,.bool d.e]
def Dc.cs (d:Dc):List Value:=[.int .u8 d.k,.string d.t,.int .i64 d.b,.int .i64 d.i,.bool d.e]
theorem Dc.cs_len (d:Dc):d.cs.length=5:=rfl
theorem Dc.cs_one (d:Dc):∀u∈d.cs,u.oneCell'=true:=by
 intro u hu;simp only [Dc.cs,List.mem_cons,List.not_mem_nil,or_false] at hu
 rcases hu with rfl|rfl|rfl|rfl|rfl <;> rfl
def dcs (l:List Dc):List Value:=aW Dc.cs l
theorem aD (l:List Dc):(dcs l).length=l.length*5:=dQ Dc.cs 5 Dc.cs_len l
theorem bk (l:List Dc):∀u∈dcs l,u.oneCell'=true:=by
 intro u hu;obtain ⟨d,_,h⟩:=List.mem_flatMap.1 hu;exact d.cs_one u h
def Lay (w:World) (ao:Option Addr) (l:List Dc):Prop:=∀j d,l[j]?=some d->d.t.size<=9223372036854775807/\∃b off,ao=some ⟨b,off,none⟩ /\
 w.cell? ⟨b,off+j*5,none⟩=some (.int .u8 d.k)/\w.cell? ⟨b,off+j*5+1,none⟩=some (.string d.t)/\w.cell? ⟨b,off+j*5+2,none⟩=some (.int .i64 d.b)/\w.cell? ⟨b,off+j*5+3,none⟩=some (.int .i64 d.i)/\w.cell? ⟨b,off+j*5+4,none⟩=some (.bool d.e)
theorem Lay.kp {S:Nat->Prop}{w w':World}{ao:Option Addr}{l:List Dc}(h:Lay w ao l) (hb:Kp S w w') (hS:∀a,ao=some a->¬S a.block):Lay w' ao l:=by
 intro j a ha;obtain ⟨h0,b,off,h1,c0,c1,c2,c3,c4⟩:=h j a ha;have hlt:=World.block_lt_of_cell? _ _ c0;have e:w'.heap[b]?=w.heap[b]?:=hb.block b hlt (hS _ h1);exact ⟨h0,b,off,h1,(World.cell?_of_block (a:=⟨b,_,none⟩) e).trans c0,(World.cell?_of_block (a:=⟨b,_,none⟩) e).trans c1,(World.cell?_of_block (a:=⟨b,_,none⟩) e).trans c2,(World.cell?_of_block (a:=⟨b,_,none⟩) e).trans c3,(World.cell?_of_block (a:=⟨b,_,none⟩) e).trans c4⟩
theorem Lay.below {w':World}{ao:Option Addr}(h:Lay w ao l) (hb:Below w.heap.size w w'):Lay w' ao l:=h.kp (Kp.of_below (S:=fun _=>False) hb) (fun _ _ h=>h)
theorem Lay.row {B:Nat}{v:Value}{n:Nat}(h:w.ownsRow B 57 5 v n (dcs l)) (ht:∀d∈l,d.t.size<=9223372036854775807):∃ao cap,v=.slice ao l.length cap/\n=l.length/\Lay w ao l/\(ao=none\/∃g,ao=some ⟨g,0,none⟩/\B<=g/\g<w.heap.size)/\l.length<=cap/\cap<=maxLen:=by
 have hn:n=l.length:=by have:=h.1;rw [aD] at this;omega
 subst hn
 rcases h.2 with ⟨rfl,h0⟩|⟨g,cap,cur,rfl,hb,hg,h3,h4,h5,h6⟩
 ·have:l=[]:=List.eq_nil_of_length_eq_zero h0;subst this;exact ⟨none,0,rfl,rfl,fun j d h=>by simp at h,.inl rfl,Nat.zero_le _,Nat.zero_le _⟩
 ·refine ⟨some ⟨g,0,none⟩,cap,rfl,rfl,?_,.inr ⟨g,rfl,hb,ap hg⟩,h3,h4⟩;intro j d hj
  have hc:∀(k:Nat) (u:Value),(dcs l)[k]?=some u->w.cell? ⟨g,k,none⟩=some u:=fun k u hu=>by
   have:=h.cells (g:=g) rfl k u hu;rw [Addr.add_lit,Nat.zero_add] at this;exact this
  refine ⟨ht d (List.mem_of_getElem? hj),g,0,rfl,?_,?_,?_,?_,?_⟩
  ·rw [Nat.zero_add];exact hc _ _ (aH Dc.cs 5 Dc.cs_len l j 0 d _ hj rfl)
  ·rw [Nat.zero_add];exact hc _ _ (aH Dc.cs 5 Dc.cs_len l j 1 d _ hj rfl)
  ·rw [Nat.zero_add];exact hc _ _ (aH Dc.cs 5 Dc.cs_len l j 2 d _ hj rfl)
  ·rw [Nat.zero_add];exact hc _ _ (aH Dc.cs 5 Dc.cs_len l j 3 d _ hj rfl)
  ·rw [Nat.zero_add];exact hc _ _ (aH Dc.cs 5 Dc.cs_len l j 4 d _ hj rfl)
end Go.Proofs.YtpdlohfdjiaegaaGreatDoor.Lw
namespace Go.Proofs.YtpdlohfdjiaegaaGreatDoor.Lw
open Go.Proofs.YtpdlohfdjiaegaaGreatDoor.Lx
open Go.RowKit
theorem wj (c:UInt8) (w:World):Da 245 #[.int .u8 (c.toNat:Int)] w fun e w'=>e=.returned (.bool (edg c))/\w'=w:=by
 have h1:((c.toNat:Int) == 32)=(c == 32):=by revert c;exact xc (by decide +kernel)
 have h2:((c.toNat:Int) == 10)=(c == 10):=by revert c;exact xc (by decide +kernel)
 have e:edg c=((c.toNat:Int) == 32 || (c.toNat:Int) == 10):=by rw [h1,h2];rfl
 rw [e];clear e h1 h2
 generalize (c.toNat:Int)=z
 go_enter Tryz.func245,Tryz.ntmps245
 go_wp2_with fail
 all_goals (go_ret;simp_all)
theorem mX (n:Int) (w:World):Da 229 #[.int .i64 n] w fun e w'=>e=.returned (.bool (rtN n))/\w'=w:=by
 have e:rtN n=(decide (0<=n) && decide (n<=1000)):=rfl;rw [e];clear e
 go_enter Tryz.func229,Tryz.ntmps229
 go_wp2_with fail
 all_goals (go_ret;simp_all)
 all_goals omega
theorem tr (t:ByteArray) (ht:t.size<=9223372036854775807) (w:World):Da 228 #[.string t] w fun e w'=>e=.returned (.bool (rtT t))/\w'=w:=by
 by_cases h0:t.size=0
 ·have e0:t=⟨#[]⟩:=by
   apply lS
   exact List.eq_nil_of_length_eq_zero (by rw [jK];exact h0)
  subst e0
  go_enter Tryz.func228,Tryz.ntmps228
  go_wp2_with fail
  go_ret
  exact ⟨rfl,rfl⟩
 ·have hne:¬t.toList=[]:=by
   rw [Lib.toList_data];intro hl;exact absurd (by have:=jK t;rw [lsb,hl] at this;simpa using this.symm) h0
  by_cases h1:t.size<=65535
  ·have hlt:0<t.size:=by omega
   have hlt2:t.size-1<t.size:=by omega
   have HE:Hid (rtT t=(!edg t[0] && !edg (t[t.size-1]))):=by
    show _=_
    unfold rtT;have a0:(lsb t).getD 0 0=t[0]:=(Lib.getD_at t 0 hlt).symm;have a1:(lsb t).getD (t.size-1) 0=t[t.size-1]:=(Lib.getD_at t (t.size-1) hlt2).symm;rw [a0,a1];simp [h1,show 1<=t.size by omega]
   go_enter Tryz.func228,Tryz.ntmps228
   go_wp2_with (go_at_call 245;refine (wj _ _).mono ?_;rintro e w1 ⟨rfl,rfl⟩)
   all_goals (go_ret;rw [HE.out];clear HE;refine ⟨?_,rfl⟩;simp_all)
  ·go_enter Tryz.func228,Tryz.ntmps228
   go_wp2_with fail
   go_ret
   refine ⟨?_,rfl⟩;simp [rtT,h1]
theorem oV (t:ByteArray) (b i:Int) (e:Bool) (ht:t.size<=9223372036854775807) (w:World):Da 194 #[.agg #[.int .u8 1,.string t,.int .i64 b,.int .i64 i,.bool e]] w fun x w'=>x=.returned (.bool (rtT t && (b == 0 && (i == 0 && !e))))/\Below w.heap.size w w':=by
 go_enter Tryz.func194,Tryz.ntmps194
 go_wp2_with (go_at_call 228;refine (tr _ ht _).mono ?_;rintro e w1 ⟨rfl,rfl⟩)
 all_goals go_ret
 all_goals (refine ⟨by simp_all,?_⟩;repeat (first|exact Below.refl _ _|refine Below.setCell ?_ (Nat.le_refl _) _|refine Below.alloc ?_ (by simp) _|refine Below.drew ?_))
theorem si (t:ByteArray) (b i:Int) (e:Bool) (w:World):Da 194 #[.agg #[.int .u8 3,.string t,.int .i64 b,.int .i64 i,.bool e]] w fun x w'=>x=.returned (.bool (rtN b && (t.toList == [] && (i == 0 && !e))))/\Below w.heap.size w w':=by
 go_enter Tryz.func194,Tryz.ntmps194
 go_wp2_with (go_at_call 229;refine (mX _ _).mono ?_;rintro e w1 ⟨rfl,rfl⟩)
 all_goals go_ret
 all_goals (refine ⟨by simp_all,?_⟩;repeat (first|exact Below.refl _ _|refine Below.setCell ?_ (Nat.le_refl _) _|refine Below.alloc ?_ (by simp) _|refine Below.drew ?_))
theorem sj (t:ByteArray) (b i:Int) (e:Bool) (w:World):Da 194 #[.agg #[.int .u8 6,.string t,.int .i64 b,.int .i64 i,.bool e]] w fun x w'=>x=.returned (.bool (rtN i && (t.toList == [] && b == 0)))/\Below w.heap.size w w':=by
 go_enter Tryz.func194,Tryz.ntmps194
 go_wp2_with (go_at_call 229;refine (mX _ _).mono ?_;rintro e w1 ⟨rfl,rfl⟩)
 all_goals go_ret
 all_goals (refine ⟨by simp_all,?_⟩;repeat (first|exact Below.refl _ _|refine Below.setCell ?_ (Nat.le_refl _) _|refine Below.alloc ?_ (by simp) _|refine Below.drew ?_))
theorem oU (k:Int) (hk:k=2\/k=4\/k=5\/k=7) (t:ByteArray) (b i:Int) (e:Bool) (w:World):Da 194 #[.agg #[.int .u8 k,.string t,.int .i64 b,.int .i64 i,.bool e]] w fun x w'=>x=.returned (.bool (t.toList == [] && (b == 0 && (i == 0 && !e))))/\Below w.heap.size w w':=by
 rcases hk with rfl|rfl|rfl|rfl
 all_goals
  go_enter Tryz.func194,Tryz.ntmps194
  go_wp2_with fail
  all_goals go_ret
  all_goals (refine ⟨by simp_all,?_⟩;repeat (first|exact Below.refl _ _|refine Below.setCell ?_ (Nat.le_refl _) _|refine Below.alloc ?_ (by simp) _|refine Below.drew ?_))
theorem oX (k:Int) (h1:k≠1) (h2:k≠2) (h3:k≠3) (h4:k≠4) (h5:k≠5) (h6:k≠6) (h7:k≠7) (t:ByteArray) (b i:Int) (e:Bool) (w:World):Da 194 #[.agg #[.int .u8 k,.string t,.int .i64 b,.int .i64 i,.bool e]] w fun x w'=>x=.returned (.bool false)/\Below w.heap.size w w':=by
 go_enter Tryz.func194,Tryz.ntmps194
 go_wp2_with fail
 all_goals go_ret
 all_goals (refine ⟨by simp_all,?_⟩;repeat (first|exact Below.refl _ _|refine Below.setCell ?_ (Nat.le_refl _) _|refine Below.alloc ?_ (by simp) _|refine Below.drew ?_))
theorem xo (t:ByteArray):(t.toList == [])=decide (t=bE):=by
 rw [Bool.eq_iff_iff,beq_iff_eq,decide_eq_true_eq,Lib.toList_data];constructor
 ·intro h;exact lS h
 ·rintro rfl;rfl
theorem sm (d:Dc) (ht:d.t.size<=9223372036854775807) (w:World):Da 194 #[d.v] w fun x w'=>x=.returned (.bool (rt d))/\Below w.heap.size w w':=by
 obtain ⟨k,t,b,i,e⟩:=d
 by_cases k1:k=1
 ·subst k1
  have e1:rt ⟨1,t,b,i,e⟩=(rtT t && (b == 0 && (i == 0 && !e))):=by
   unfold rt;rw [if_pos rfl]
   congr 1
   rw [Bool.eq_iff_iff];simp [Dc.mk.injEq]
  rw [e1];exact oV t b i e ht w
 by_cases k3:k=3
 ·subst k3
  have e1:rt ⟨3,t,b,i,e⟩=(rtN b && (t.toList == [] && (i == 0 && !e))):=by
   unfold rt;rw [if_neg (by show ¬(3:Int)=1;decide),if_pos rfl,xo]
   congr 1
   rw [Bool.eq_iff_iff];simp [Dc.mk.injEq]
  rw [e1];exact si t b i e w
 by_cases k6:k=6
 ·subst k6
  have e1:rt ⟨6,t,b,i,e⟩=(rtN i && (t.toList == [] && b == 0)):=by
   unfold rt;rw [if_neg (by show ¬(6:Int)=1;decide),if_neg (by show ¬(6:Int)=3;decide),if_pos rfl,xo]
   congr 1
   rw [Bool.eq_iff_iff];simp [Dc.mk.injEq]
  rw [e1];exact sj t b i e w
 by_cases kz:k=2\/k=4\/k=5\/k=7
 ·have e1:rt ⟨k,t,b,i,e⟩=(t.toList == [] && (b == 0 && (i == 0 && !e))):=by
   unfold rt;rw [if_neg k1,if_neg k3,if_neg k6,if_pos kz,xo];rw [Bool.eq_iff_iff];simp [Dc.mk.injEq]
  rw [e1];exact oU k kz t b i e w
 ·have e1:rt ⟨k,t,b,i,e⟩=false:=by
   unfold rt;rw [if_neg k1,if_neg k3,if_neg k6,if_neg kz]
  rw [e1];simp only [not_or] at kz;exact oX k k1 kz.1 k3 kz.2.1 kz.2.2.1 k6 kz.2.2.2 t b i e w
end Go.Proofs.YtpdlohfdjiaegaaGreatDoor.Lw
namespace Go.Proofs.YtpdlohfdjiaegaaGreatDoor.Lw
open Go.Proofs.YtpdlohfdjiaegaaGreatDoor.Lx
open Go.RowKit
open Go.Lib (strCells strCells_length)
variable {w w' w0:World}{i g c d h f j:Nat}{sv:Array Value}
theorem oy (t:ByteArray):(aft t).size<=t.size:=by
 unfold aft;have:=zM t;rw [ByteArray.size_extract];omega
theorem eQ (b:Bool) (col wait:Int) (t:ByteArray) (w:World) (hT:Tab w) (ht:t.size<=2147483647) (h0:0<=col) (h1:col<=1152921504606846976) (h2:0<=wait) (h3:wait<=1152921504606846976) :
  Da 158 #[.agg #[.bool b,.int .i64 col,.int .i64 wait],.string t] w fun e w'=>e=.returned (.agg #[.bool true,.int .i64 (iK col wait t),.int .i64 0])/\Below w.heap.size w w':=by
 have hbd:=zM t;have hbt:=kl t;have hba:=kl (aft t);have hsa:=oy t
 by_cases hl:lf t<0
 ·have q1:decide (0<=lf t)=false:=by simp;omega
  have q2:¬(0<=lf t):=by omega
  have HN:Hid (iK col wait t=col+wait+tw t):=if_pos hl;clear hba hsa;obtain ⟨y,hy⟩:∃y,tw t=y:=⟨_,rfl⟩;rw [hy] at HN hbt
  go_enter Tryz.func158,Tryz.ntmps158
  go_wp2_with (go_at_call 200;refine (nF t (by omega) _).mono ?_;rintro e w1 ⟨rfl,rfl⟩)
  obtain ⟨W,hW⟩:∃W,((w.alloc (.cells #[.bool b,.int .i64 col,.int .i64 wait] 163)).alloc (.cells #[.bool false,.int .i64 0,.int .i64 0] 163))=W:=⟨_,rfl⟩;have s1:(w.alloc (.cells #[.bool b,.int .i64 col,.int .i64 wait] 163)).heap.size=w.heap.size+1:=World.size_alloc _ _;have hbW:Below w.heap.size w W:=by rw [<-hW];exact ((Below.refl _ w).alloc (Nat.le_refl _) _).alloc (by omega) _
  have b1:W.heap[w.heap.size]?=some (.cells #[.bool b,.int .i64 col,.int .i64 wait] 163 (0,0)):=by rw [<-hW];exact eE _ _ _ _ (am _ _)
  have b2:W.heap[w.heap.size+1]?=some (.cells #[.bool false,.int .i64 0,.int .i64 0] 163 (0,0)):=by rw [<-hW,<-s1];exact am _ _
  obtain ⟨x,hx⟩:∃x,x=w.heap.size:=⟨_,rfl⟩;rw [<-hx] at b1 b2 hbW;have hTW:Tab W:=hT.below (by rw [<-hx];exact hbW);simp only [hW,<-hx];have x1:W.cell? ⟨x,1,none⟩=some (.int .i64 col):=aa b1 rfl;have x2:W.cell? ⟨x,2,none⟩=some (.int .i64 wait):=aa b1 rfl;have HB:Hid (∀V,Below W.heap.size W V->V.cell? ⟨x,1,none⟩=some (.int .i64 col)/\V.cell? ⟨x,2,none⟩=some (.int .i64 wait)/\V.cell? ⟨x+1,0,none⟩=some (.bool false)/\V.cell? ⟨x+1,1,none⟩=some (.int .i64 0)/\V.cell? ⟨x+1,2,none⟩=some (.int .i64 0)/\V.frozen? ⟨x+1,0,none⟩=false/\V.frozen? ⟨x+1,1,none⟩=false/\V.frozen? ⟨x+1,2,none⟩=false):=fun V hV=>⟨aa (ab b1 hV) rfl,aa (ab b1 hV) rfl,aa (ab b2 hV) rfl,aa (ab b2 hV) rfl,aa (ab b2 hV) rfl,ak (ab b2 hV),ak (ab b2 hV),ak (ab b2 hV)⟩
  have HBW:Hid (Below x w W):=hbW;have HT:Hid (Tab W):=hTW
  have HC:Hid (Da 196 #[.string t] W.drew fun e V=>e=.returned (.int .i64 y)/\Hid (Below x w V/\V.heap[x+1]?=some (.cells #[.bool false,.int .i64 0,.int .i64 0] 163 (0,0)))/\V.cell? ⟨x,1,none⟩=some (.int .i64 col)/\V.cell? ⟨x,2,none⟩=some (.int .i64 wait)/\V.cell? ⟨x+1,0,none⟩=some (.bool false)/\V.cell? ⟨x+1,1,none⟩=some (.int .i64 0)/\V.cell? ⟨x+1,2,none⟩=some (.int .i64 0)/\V.frozen? ⟨x+1,0,none⟩=false/\V.frozen? ⟨x+1,1,none⟩=false/\V.frozen? ⟨x+1,2,none⟩=false):=by
   refine (gV t W.drew (hTW.below (Below.drew (Below.refl _ W))) ht).mono ?_;rintro e V ⟨rfl,hV⟩;have hV':Below W.heap.size W V:=⟨hV.os,hV.tape,hV.output,hV.size,hV.block⟩;exact ⟨by rw [hy],⟨hbW.trans (hV'.mono (by have:=hbW.size;omega)),ab b2 hV'⟩,HB.out V hV'⟩
  clear s1 b1 b2 hT hTW hbW hW q1 q2 hl hbd HB HT hy;have HX:Hid (x=w.heap.size):=hx;clear hx
  go_region_with (go_at_call 196;refine HC.out.mono ?_;rintro e w2 ⟨rfl,hb2,k1,k2,k3,k4,k5,k6,k7,k8⟩)
  all_goals
   have hz:IntKind.i64.wrap (IntKind.i64.wrap (col+wait)+y)=col+wait+y:=by rw [IntKind.wrap_i64,IntKind.wrap_i64];omega
   rw [hz];obtain ⟨V,hV⟩:∃V,V=((w2.setCell ⟨x+1,0,none⟩ (.bool true)).setCell ⟨x+1,1,none⟩ (.int .i64 (col+wait+y))).setCell ⟨x+1,2,none⟩ (.int .i64 0):=⟨_,rfl⟩;have hVb:V.heap[x+1]?=some (.cells #[.bool true,.int .i64 (col+wait+y),.int .i64 0] 163 (0,0)):=by rw [hV];exact af (af (af hb2.out.2 0 _) 1 _) 2 _
   have hVB:Below x w V:=by rw [hV];exact (((hb2.out.1).setCell (p:=⟨x+1,0,none⟩) (by show x<=x+1;omega) _).setCell (p:=⟨x+1,1,none⟩) (by show x<=x+1;omega) _).setCell (p:=⟨x+1,2,none⟩) (by show x<=x+1;omega) _
   rw [<-hV];have m0:V.cell? ⟨x+1,0,none⟩=some (.bool true):=aa hVb rfl;have m1:V.cell? ⟨x+1,1,none⟩=some (.int .i64 (col+wait+y)):=aa hVb rfl;have m2:V.cell? ⟨x+1,2,none⟩=some (.int .i64 0):=aa hVb rfl;have HF:Hid (Ending.returned (.agg #[.bool true,.int .i64 (col+wait+y),.int .i64 0])=.returned (.agg #[.bool true,.int .i64 (iK col wait t),.int .i64 0])/\Below w.heap.size w V):=⟨by rw [HN.out],by rw [<-HX.out];exact hVB⟩;clear hz hV hVb hVB k1 k2 k3 k4 k5 k6 k7 k8 hb2 HC HN
   go_wp2_with fail
   exact bodyPost_ret (v:=.agg #[.bool true,.int .i64 (col+wait+y),.int .i64 0]) (by simp [results,Tryz.f158,go_sem,m0,m1,m2]) rfl HF.out
 ·have q1:decide (0<=lf t)=true:=by simp;omega
  have q2:(0<=lf t):=by omega
  have HN:Hid (iK col wait t=tw (aft t)):=if_neg hl;obtain ⟨k,hk⟩:∃k:Nat,lf t=k:=⟨(lf t).toNat,by omega⟩;have HA:Hid (aft t=t.extract (k+1) t.size):=by unfold aft;rw [hk];rfl
  obtain ⟨y,hy⟩:∃y,tw (aft t)=y:=⟨_,rfl⟩
  have HC:Hid (∀V,Tab V->Da 196 #[.string (t.extract (k+1) t.size)] V fun e V'=>e=.returned (.int .i64 y)/\Below V.heap.size V V'):=by
   intro V hV;rw [<-HA.out,<-hy];exact gV (aft t) V hV (by omega)
  rw [hy] at HN hba;have hk1:(k:Int)+1<=t.size:=by omega
  have hkn:k+1<=t.size:=by omega
  have HT:Hid (Tab w):=hT
  have LC:Hid (∀V,Da 200 #[.string t,.string ⟨#[10]⟩] V fun e w'=>e=.returned (.int .i64 k)/\w'=V):=by
   intro V;have:=nF t (by omega) V;rw [hk] at this;exact this
  clear hsa hbt q1 q2 hT hy HA hl hk hbd
  go_enter Tryz.func158,Tryz.ntmps158
  go_wp2_with (go_at_call 200;refine (LC.out _).mono ?_;rintro e w1 ⟨rfl,rfl⟩)
  obtain ⟨W,hW⟩:∃W,((w.alloc (.cells #[.bool b,.int .i64 col,.int .i64 wait] 163)).alloc (.cells #[.bool false,.int .i64 0,.int .i64 0] 163))=W:=⟨_,rfl⟩;have s1:(w.alloc (.cells #[.bool b,.int .i64 col,.int .i64 wait] 163)).heap.size=w.heap.size+1:=World.size_alloc _ _;have hbW:Below w.heap.size w W:=by rw [<-hW];exact ((Below.refl _ w).alloc (Nat.le_refl _) _).alloc (by omega) _
  have b2:W.heap[w.heap.size+1]?=some (.cells #[.bool false,.int .i64 0,.int .i64 0] 163 (0,0)):=by rw [<-hW,<-s1];exact am _ _
  refine (HC.out _ ?tab).mono ?_
  case tab=>rw [hW];exact HT.out.below hbW
  rintro e w2 ⟨rfl,hb2⟩;rw [hW] at hb2;have HB2:Hid (Below w.heap.size w w2):=hbW.trans (hb2.mono hbW.size);have k0:=ab b2 hb2;clear hb2 hbW b2 s1 hW;have HK:Hid (w2.heap[w.heap.size+1]?=some (.cells #[.bool false,.int .i64 0,.int .i64 0] 163 (0,0))):=k0;obtain ⟨x,HX⟩:∃x,Hid (x=w.heap.size):=⟨_,rfl⟩;rw [<-HX.out] at k0 HB2 HK ⊢;have k3:w2.cell? ⟨x+1,0,none⟩=some (.bool false):=aa k0 rfl;have k4:w2.cell? ⟨x+1,1,none⟩=some (.int .i64 0):=aa k0 rfl;have k5:w2.cell? ⟨x+1,2,none⟩=some (.int .i64 0):=aa k0 rfl;have k6:w2.frozen? ⟨x+1,0,none⟩=false:=ak k0;have k7:w2.frozen? ⟨x+1,1,none⟩=false:=ak k0;have k8:w2.frozen? ⟨x+1,2,none⟩=false:=ak k0;clear k0;obtain ⟨V,hV⟩:∃V,V=((w2.setCell ⟨x+1,0,none⟩ (.bool true)).setCell ⟨x+1,1,none⟩ (.int .i64 y)).setCell ⟨x+1,2,none⟩ (.int .i64 0):=⟨_,rfl⟩;have hVb:V.heap[x+1]?=some (.cells #[.bool true,.int .i64 y,.int .i64 0] 163 (0,0)):=by rw [hV];exact af (af (af HK.out 0 _) 1 _) 2 _
  have hVB:Below x w V:=by rw [hV];exact (((HB2.out).setCell (p:=⟨x+1,0,none⟩) (by show x<=x+1;omega) _).setCell (p:=⟨x+1,1,none⟩) (by show x<=x+1;omega) _).setCell (p:=⟨x+1,2,none⟩) (by show x<=x+1;omega) _
  have m0:V.cell? ⟨x+1,0,none⟩=some (.bool true):=aa hVb rfl;have m1:V.cell? ⟨x+1,1,none⟩=some (.int .i64 y):=aa hVb rfl;have m2:V.cell? ⟨x+1,2,none⟩=some (.int .i64 0):=aa hVb rfl;have HF:Hid (Ending.returned (.agg #[.bool true,.int .i64 y,.int .i64 0])=.returned (.agg #[.bool true,.int .i64 (iK col wait t),.int .i64 0])/\Below w.heap.size w V):=⟨by rw [HN.out],by rw [<-HX.out];exact hVB⟩;have HV:Hid (V=((w2.setCell ⟨x+1,0,none⟩ (.bool true)).setCell ⟨x+1,1,none⟩ (.int .i64 y)).setCell ⟨x+1,2,none⟩ (.int .i64 0)):=hV;clear hV hVb hVB HB2 HC HN
  go_wp2_with fail
  rw [<-HV.out];exact bodyPost_ret (v:=.agg #[.bool true,.int .i64 y,.int .i64 0]) (by simp [results,Tryz.f158,go_sem,m0,m1,m2]) rfl HF.out
def cR (gs:List (Nat × Nat)) (l m:Nat):List (Nat × Nat):=if m=0 then gs else gs++[(l,m)]
theorem je {gs:List (Nat × Nat)}{t:List UInt8}(m:Nat) (h:Ups f gs t.length):bW f (cR gs t.length m) t=bW f gs t++List.replicate m 32:=by
 unfold cR
 by_cases hm:m=0
 ·rw [if_pos hm,hm];simp
 ·rw [if_neg hm];exact rH m h
theorem jg {gs:List (Nat × Nat)}{k:Nat}(m:Nat) (h:Ups f gs k):Ups f (cR gs k m) k:=by
 unfold cR
 split
 ·exact h
 ·exact h.snoc m
theorem ko (gs:List (Nat × Nat)) (l m:Nat):bT (cR gs l m)=bT gs+m:=by
 unfold cR
 split
 ·omega
 ·exact ui _ _ _
theorem qN (gs:List (Nat × Nat)) (l m n:Nat) (h:∀x∈gs,x.1<n) (hl:l<n):∀x∈cR gs l m,x.1<n:=by
 unfold cR
 split
 ·exact h
 ·intro x hx
  rcases List.mem_append.1 hx with hx|hx
  ·exact h x hx
  ·simp at hx;subst hx;exact hl
theorem jL (gs:List (Nat × Nat)) (l m:Nat) (h:gs.length<=bT gs):(cR gs l m).length<=bT (cR gs l m):=by
 rw [ko];unfold cR
 split
 ·omega
 ·simp;omega
theorem Ch (m d c:Nat) (v tv:Value) (l:Nat) (gs:List (Nat × Nat)) (w:World) (hc:w.heap[c]?=some (.cells #[tv] 164 (0,0))) (htv:∃p cap,tv=.slice p l cap) (hd:w.heap[d]?=some (.cells #[v] 165 (0,0))) (ho:w.ownsRow 0 175 2 v gs.length (aW eg gs)) (hn:gs.length<=1073741824) (hm2:m<=9223372036854775807) (hl:l<=9223372036854775807) :
  Da 197 #[.int .i64 m,.pointer (some ⟨d,0,none⟩),.pointer (some ⟨c,0,none⟩)] w fun e w'=>e=.returned (.tuple #[])/\∃v',w'.heap[d]?=some (.cells #[v'] 165 (0,0))/\w'.ownsRow 0 175 2 v' (cR gs l m).length (aW eg (cR gs l m))/\(v'.ownBlock=v.ownBlock\/∃b,w.heap.size<=b/\v'.ownBlock=some b)/\Kp (fun k=>k=d\/some k=v.ownBlock) w w':=by
 unfold cR
 by_cases hm:m=0
 ·subst hm;simp only [if_pos];refine (zj 0 d c w (Int.le_refl _)).mono ?_;rintro e w' ⟨rfl,rfl⟩;exact ⟨rfl,v,hd,ho,.inl rfl,Kp.refl _ _⟩
 ·simp only [if_neg hm];refine (tI m d c v tv gs.length l (aW eg gs) w hc htv hd ho hn (by omega) hm2 hl).mono ?_;rintro e w' ⟨rfl,v',h1,h2,h3,h4⟩;refine ⟨rfl,v',h1,?_,h3,h4⟩;rw [List.length_append,bQ]
  simpa [aW] using h2
structure Ga (own:Nat->Nat) (i:Nat) (w0:World) (g c d h:Nat) (sv:Array Value) (w:World) (text:List UInt8) (gs:List (Nat × Nat)):Prop where
 hg:w.heap[g]?=some (.cells sv 167 (0,0))
 hc:∃tv,w.heap[c]?=some (.cells #[tv] 164 (0,0))/\w.ownsRow 0 5 1 tv text.length (bc text)/\∀k,tv.ownBlock=some k->own k=i\/w0.heap.size<=k
 hd:∃gv,w.heap[d]?=some (.cells #[gv] 165 (0,0))/\w.ownsRow 0 175 2 gv gs.length (aW eg gs)/\∀k,gv.ownBlock=some k->own k=i\/w0.heap.size<=k
 hh:w.heap[h]?=some (.cells #[.pointer (some ⟨g,0,none⟩)] 111 (0,0))
 kp:Kp (fun k=>own k=i) w0 w
 lc:w0.heap.size<=c
 ld:w0.heap.size<=d
theorem ik {a b:Nat}{x y:Array Value}{s t:TypeId}{f e:Nat × Nat}(ha:w.heap[a]?=some (.cells x s f)) (hb:w.heap[b]?=some (.cells y t e)) (h:s≠t):a≠b:=by
 rintro rfl;rw [ha] at hb;injection hb with h1
 injection h1 with _ h2
 exact h h2
theorem Ga.below {own:Nat->Nat}{text:List UInt8}{gs:List (Nat × Nat)}(H:Ga own i w0 g c d h sv w text gs) (hb:Below w.heap.size w w'):Ga own i w0 g c d h sv w' text gs:=by
 obtain ⟨tv,h1,h2,h3⟩:=H.hc;obtain ⟨gv,k1,k2,k3⟩:=H.hd;exact ⟨ab H.hg hb,⟨tv,ab h1 hb,aO h2 hb,h3⟩,⟨gv,ab k1 hb,aO k2 hb,k3⟩,ab H.hh hb,H.kp.step (Kp.of_below (S:=fun k=>own k=i) hb) (fun _ _ h=>h),H.lc,H.ld⟩
theorem Ga.blanks {own:Nat->Nat}{text:List UInt8}{gs:List (Nat × Nat)}(H:Ga own i w0 g c d h sv w text gs) (m:Nat) (hn:gs.length<=1073741824) (hm:m<=9223372036854775807) (hl:text.length<=9223372036854775807) :
  Da 197 #[.int .i64 m,.pointer (some ⟨d,0,none⟩),.pointer (some ⟨c,0,none⟩)] w fun e w'=>e=.returned (.tuple #[])/\Ga own i w0 g c d h sv w' text (cR gs text.length m):=by
 obtain ⟨tv,h1,h2,h3⟩:=H.hc;obtain ⟨gv,k1,k2,k3⟩:=H.hd;obtain ⟨p,cap,hv,_,_⟩:=av h2;refine (Ch m d c gv tv text.length gs w h1 ⟨p,cap,hv⟩ k1 k2 hn hm hl).mono ?_;rintro e w' ⟨rfl,v',a1,a2,a3,a4⟩
 have hne:∀{x:Array Value} {k:Nat} {T:TypeId},w.heap[k]?=some (.cells x T (0,0))->T≠165->T≠175->¬(k=d\/some k=gv.ownBlock):=by
  intro x k T hk t1 t2 hh
  rcases hh with hh|hh
  ·exact ik hk k1 t1 hh
  ·exact aA k2 hk t2 hh.symm
 refine ⟨rfl,a4.blk H.hg (hne H.hg (by decide) (by decide)),⟨tv,a4.blk h1 (hne h1 (by decide) (by decide)),a4.row h2 ?_,h3⟩,⟨v',a1,a2,?_⟩,a4.blk H.hh (hne H.hh (by decide) (by decide)),H.kp.step a4 ?_,H.lc,H.ld⟩
 ·intro k hk hS
  rcases hS with hS|hS
  ·subst hS;exact aA h2 k1 (by decide) hk
  ·rcases h2.2 with ⟨rfl,_⟩|⟨b,cap,cur,rfl,_,hb,_⟩
   ·cases hk
   ·simp only [Value.ownBlock,Option.some.injEq] at hk;subst hk;exact aA k2 hb (by decide) hS.symm
 ·intro k hk
  rcases a3 with a3|⟨b,hb,a3⟩
  ·exact k3 k (by rw [<-a3];exact hk)
  ·rw [a3] at hk;injection hk with hk;subst hk
   exact .inr (Nat.le_trans H.kp.size hb)
 ·intro j hj hS
  rcases hS with hS|hS
  ·have:=H.ld;omega
  ·rcases k3 j hS.symm with h|h
   ·exact h
   ·omega
theorem Ga.text {own:Nat->Nat}{i:Nat}{w0:World}{g c d h:Nat}{sv:Array Value}{w:World}{text:List UInt8}{gs:List (Nat × Nat)}(H:Ga own i w0 g c d h sv w text gs) (t:ByteArray) (hn:text.length+t.size<=70368744177664) :
  Da 198 #[.string t,.pointer (some ⟨c,0,none⟩)] w fun e w'=>e=.returned (.tuple #[])/\Ga own i w0 g c d h sv w' (text++t.data.toList) gs:=by
 obtain ⟨tv,h1,h2,h3⟩:=H.hc;obtain ⟨gv,k1,k2,k3⟩:=H.hd;refine (zi c tv text.length (bc text) t w h1 h2 hn).mono ?_;rintro e w' ⟨rfl,v',a1,a2,a3,a4⟩
 have hne:∀{x:Array Value} {k:Nat} {T:TypeId},w.heap[k]?=some (.cells x T (0,0))->T≠164->T≠5->¬(k=c\/some k=tv.ownBlock):=by
  intro x k T hk t1 t2 hh
  rcases hh with hh|hh
  ·exact ik hk h1 t1 hh
  ·exact aA h2 hk t2 hh.symm
 have hlen:(text++t.data.toList).length=text.length+t.size:=by rw [List.length_append];rfl
 refine ⟨rfl,a4.blk H.hg (hne H.hg (by decide) (by decide)),⟨v',a1,by rw [hlen,wT];exact a2,?_⟩,⟨gv,a4.blk k1 (hne k1 (by decide) (by decide)),a4.row k2 ?_,k3⟩,a4.blk H.hh (hne H.hh (by decide) (by decide)),H.kp.step a4 ?_,H.lc,H.ld⟩
 ·intro k hk
  rcases a3 with a3|a3
  ·exact h3 k (by rw [<-a3];exact hk)
  ·rw [a3] at hk;injection hk with hk;subst hk
   exact .inr H.kp.size
 ·intro k hk hS
  rcases hS with hS|hS
  ·subst hS;exact aA k2 h1 (by decide) hk
  ·rcases k2.2 with ⟨rfl,_⟩|⟨b,cap,cur,rfl,_,hb,_⟩
   ·cases hk
   ·simp only [Value.ownBlock,Option.some.injEq] at hk;subst hk;exact aA h2 hb (by decide) hS.symm
 ·intro j hj hS
  rcases hS with hS|hS
  ·have:=H.lc;omega
  ·rcases h3 j hS.symm with h|h
   ·exact h
   ·omega
structure St6 where
 fresh:Bool
 col:Nat
 wait:Nat
 out:List UInt8
structure SK (own:Nat->Nat) (i:Nat) (w:World) (g:Nat) (s:St6):Prop where
 lab:own g=i
 ex:∃tv gv text gs,w.heap[g]?=some (.cells (sk (!s.fresh) s.col s.wait tv gv) 167 (0,0))/\(w.ownsRow 0 5 1 tv text.length (bc text)/\∀k,tv.ownBlock=some k->own k=i)/\(w.ownsRow 0 175 2 gv gs.length (aW eg gs)/\∀k,gv.ownBlock=some k->own k=i)/\Ups 0 gs text.length/\s.out=bW 0 gs text/\(gs.length<=bT gs/\∀x∈gs,x.1<text.length)
theorem pA {own own':Nat->Nat}{e sz n:Nat}{v:Value}{xs:List Value}(hf:Fr j own own' w w') (hij:i≠j) (h:w.ownsRow 0 e sz v n xs/\∀k,v.ownBlock=some k->own k=i):w'.ownsRow 0 e sz v n xs/\∀k,v.ownBlock=some k->own' k=i:=by
 obtain ⟨h1,h2⟩:=h;refine ⟨⟨h1.1,?_⟩,fun k hk=>?_⟩
 ·rcases h1.2 with h3|⟨g,cap,cur,rfl,h4,h5,h6⟩
  ·exact .inl h3
  ·exact .inr ⟨g,cap,cur,rfl,h4,(hf.block g (ap h5) (by rw [h2 g rfl];exact hij)).trans h5,h6⟩
 ·rw [hf.old k (h1.lt k hk).2];exact h2 k hk
theorem SK.kept {own own':Nat->Nat}{s:St6}(h:SK own i w g s) (hf:Fr j own own' w w') (hij:i≠j):SK own' i w' g s:=by
 obtain ⟨tv,gv,text,gs,h1,h2,h3,h4⟩:=h.ex;exact ⟨(hf.old g (ap h1)).trans h.lab,tv,gv,text,gs,(hf.block g (ap h1) (by rw [h.lab];exact hij)).trans h1,pA hf hij h2,pA hf hij h3,h4⟩
theorem SK.below {own:Nat->Nat}{s:St6}(h:SK own i w g s) (hb:Below w.heap.size w w'):SK own i w' g s:=
 h.kept (Fr.of_below (i:=i+1) hb) (by omega)
theorem SK.len {own:Nat->Nat}{s:St6}(h:SK own i w g s):g<w.heap.size:=by
 obtain ⟨tv,gv,text,gs,h1,_⟩:=h.ex;exact ap h1
def Af (own:Nat->Nat) (i:Nat) (w w':World) (g:Nat) (s:St6):Prop:=∃own',Nf own' w'/\Fr i own own' w w'/\SK own' i w' g s
theorem Af.here {own:Nat->Nat}{s:St6}(h:SK own i w g s) (hn:Nf own w) (hb:Below w.heap.size w w'):Af own i w w' g s:=
 ⟨own,hn.below hb.size,Fr.of_below hb,h.below hb⟩
theorem Ga.fin {own:Nat->Nat}{text:List UInt8}{gs:List (Nat × Nat)}(H:Ga own i w0 g c d h sv w text gs) (hn:Nf own w0) (hlab:own g=i) (hg0:g<w0.heap.size)
  (tv gv:Value) (h1:w.ownsRow 0 5 1 tv text.length (bc text)) (h2:∀k,tv.ownBlock=some k->own k=i\/w0.heap.size<=k) (k1:w.ownsRow 0 175 2 gv gs.length (aW eg gs)) (k2:∀k,gv.ownBlock=some k->own k=i\/w0.heap.size<=k)
  (s:St6) (hgw:w'.heap[g]?=some (.cells (sk (!s.fresh) s.col s.wait tv gv) 167 (0,0))) (hk:Kp (fun k=>k=g) w w') (hu:Ups 0 gs text.length) (ho:s.out=bW 0 gs text) (hgs:gs.length<=bT gs/\∀x∈gs,x.1<text.length):Af own i w0 w' g s:=by
 have hs:=H.kp.size;have hs':=hk.size;have rw1:=aA h1 H.hg (by decide);have rw2:=aA k1 H.hg (by decide);have lt1:=fun k hk=>(h1.lt k hk).2
 have lt2:=fun k hk=>(k1.lt k hk).2
 refine ⟨fun k=>if k<w0.heap.size then own k else if tv.ownBlock=some k\/gv.ownBlock=some k then i else 0,?_,?_,?_,tv,gv,text,gs,hgw,⟨hk.row h1 (fun k e1 e2=>rw1 (by rw [e1,e2])),?_⟩,⟨hk.row k1 (fun k e1 e2=>rw2 (by rw [e1,e2])),?_⟩,hu,ho,hgs⟩
 ·intro k hkk;show (if k<w0.heap.size then own k else if tv.ownBlock=some k\/gv.ownBlock=some k then i else 0)=0;rw [if_neg (by omega),if_neg];rintro (e|e)
  ·have:=lt1 k e;omega
  ·have:=lt2 k e;omega
 ·refine (H.kp.step hk (fun j _ e=>by subst e;exact hlab)).fr (fun k _ e=>e) (fun k hkk=>if_pos hkk)
 ·show (if g<w0.heap.size then own g else _)=i
  rw [if_pos hg0];exact hlab
 ·intro k e;show (if k<w0.heap.size then own k else if tv.ownBlock=some k\/gv.ownBlock=some k then i else 0)=i
  by_cases hkk:k<w0.heap.size
  ·rw [if_pos hkk]
   rcases h2 k e with h|h
   ·exact h
   ·omega
  ·rw [if_neg hkk,if_pos (.inl e)]
 ·intro k e;show (if k<w0.heap.size then own k else if tv.ownBlock=some k\/gv.ownBlock=some k then i else 0)=i
  by_cases hkk:k<w0.heap.size
  ·rw [if_pos hkk]
   rcases k2 k e with h|h
   ·exact h
   ·omega
  ·rw [if_neg hkk,if_pos (.inr e)]
end Go.Proofs.YtpdlohfdjiaegaaGreatDoor.Lw
