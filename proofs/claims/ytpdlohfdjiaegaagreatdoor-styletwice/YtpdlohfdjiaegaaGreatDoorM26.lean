import Derived.Lib.Overlaps
import Derived.Lib.AppendZerosOnto
import Derived.Laws.Externs
import Derived.Test.YtpdlohfdjiaegaaGreatDoorM25
set_option linter.unusedVariables false
set_option linter.unusedSimpArgs false
set_option maxHeartbeats 4000000
namespace Go.Proofs.YtpdlohfdjiaegaaGreatDoor
open Go.RowKit
open Lw (Dc bE rt frm dep rtT rtN dcs aD bk edg lsb lS jK xc)
theorem r9 (c:UInt8) (w:World):Da 117 #[.int .u8 (c.toNat:Int)] w fun e w'=>e=.returned (.bool (edg c))/\w'=w:=by
 have h1:((c.toNat:Int) == 32)=(c == 32):=by revert c;exact xc (by decide +kernel)
 have h2:((c.toNat:Int) == 10)=(c == 10):=by revert c;exact xc (by decide +kernel)
 have e:edg c=((c.toNat:Int) == 32 || (c.toNat:Int) == 10):=by rw [h1,h2];rfl
 rw [e];clear e h1 h2
 generalize (c.toNat:Int)=z
 go_enter Tryz.func117,Tryz.ntmps117
 go_wp2_with fail
 all_goals (go_ret;simp_all)
theorem rQ (t:ByteArray) (ht:t.size<=9223372036854775807) (w:World):Da 63 #[.string t] w fun e w'=>e=.returned (.bool (rtT t))/\w'=w:=by
 by_cases h0:t.size=0
 ·have e0:t=⟨#[]⟩:=by
   apply lS
   exact List.eq_nil_of_length_eq_zero (by rw [jK];exact h0)
  subst e0
  go_enter Tryz.func63,Tryz.ntmps63
  go_wp2_with fail
  go_ret
  exact ⟨rfl,rfl⟩
 ·have hne:¬t.toList=[]:=by
   rw [Lib.toList_data];intro hl;exact absurd (by have:=jK t;rw [lsb,hl] at this;simpa using this.symm) h0
  by_cases h1:t.size<=65535
  ·have hlt:0<t.size:=by omega
   have hlt2:t.size-1<t.size:=by omega
   have HE:Hid (rtT t=(!edg t[0] && !edg (t[t.size-1]))):=by
    show _=_
    unfold rtT;have a0:(lsb t).getD 0 0=t[0]:=(Lib.getD_at t 0 hlt).symm;have a1:(lsb t).getD (t.size-1) 0=t[t.size-1]:=(Lib.getD_at t (t.size-1) hlt2).symm;rw [a0,a1];simp [h1,show 1<=t.size by omega]
   go_enter Tryz.func63,Tryz.ntmps63
   go_wp2_with (go_at_call 117;refine (r9 _ _).mono ?_;rintro e w1 ⟨rfl,rfl⟩)
   all_goals (go_ret;rw [HE.out];clear HE;refine ⟨?_,rfl⟩;simp_all)
  ·go_enter Tryz.func63,Tryz.ntmps63
   go_wp2_with fail
   go_ret
   refine ⟨?_,rfl⟩;simp [rtT,h1]
theorem nI (d:Dc) (w:World):Da 123 #[.agg #[.int .u8 d.k,.string d.t,.int .i64 d.b,.int .i64 d.i,.bool d.e]] w fun e w'=>e=.returned (.bool (aK d))/\Below w.heap.size w w':=by
 have HQ:Hid (aK d=(d.k == 6)):=by show _=_;unfold aK;by_cases h:d.k=6 <;> simp [h]
 have HB:Hid (∀o,Db w (w.alloc o)):=fun o=>(Below.refl _ _).alloc (Nat.le_refl _) _
 go_enter Tryz.func123,Tryz.ntmps123
 go_wp2_with fail
 go_ret
 rw [HQ.out];exact ⟨rfl,HB.out _⟩
theorem vM (d:Dc) (w:World):Da 47 #[.agg #[.int .u8 d.k,.string d.t,.int .i64 d.b,.int .i64 d.i,.bool d.e]] w fun e w'=>e=.returned (.bool (aX d))/\Below w.heap.size w w':=by
 have HQ:Hid (aX d=(d.k == 4)):=by show _=_;unfold aX;by_cases h:d.k=4 <;> simp [h]
 have HB:Hid (∀o,Db w (w.alloc o)):=fun o=>(Below.refl _ _).alloc (Nat.le_refl _) _
 go_enter Tryz.func47,Tryz.ntmps47
 go_wp2_with fail
 go_ret
 rw [HQ.out];exact ⟨rfl,HB.out _⟩
theorem vN (d:Dc) (w:World):Da 72 #[.agg #[.int .u8 d.k,.string d.t,.int .i64 d.b,.int .i64 d.i,.bool d.e]] w fun e w'=>e=.returned (.bool (bm d))/\Below w.heap.size w w':=by
 have HB:Hid (∀o,Db w (w.alloc o)):=fun o=>(Below.refl _ _).alloc (Nat.le_refl _) _
 obtain ⟨k,t,b,i,e⟩:=d
 dsimp only
 by_cases h2:k=2
 ·subst h2
  go_enter Tryz.func72,Tryz.ntmps72
  go_wp2_with fail
  go_ret
  exact ⟨rfl,HB.out _⟩
 ·have q2:(k == 2)=false:=by simpa using h2
  by_cases h4:k=4
  ·subst h4
   go_enter Tryz.func72,Tryz.ntmps72
   go_wp2_with fail
   go_ret
   exact ⟨rfl,HB.out _⟩
  ·have q4:(k == 4)=false:=by simpa using h4
   have HQ:Hid (bm ⟨k,t,b,i,e⟩=(k == 3 && (t.toList == [] && (b == 1 && (i == 0 && !e))))):=by
    show _=_
    unfold bm dB;rw [decide_eq_false h2,decide_eq_false h4,Bool.false_or,Bool.false_or];have ht:=Lw.xo t;have hE0:bE.toList=[]:=by rw [Lib.toList_data];rfl
    by_cases a1:k=3 <;> by_cases a2:t=bE <;> by_cases a3:b=1 <;> by_cases a4:i=0 <;> cases e <;> simp [a1,a2,a3,a4,ht,hE0]
   clear h2 h4
   go_enter Tryz.func72,Tryz.ntmps72
   go_wp2_with fail
   all_goals (go_ret;rw [HQ.out];refine ⟨?_,HB.out _⟩;simp_all)
theorem vO (t:Tv) (w:World):Da 64 #[.agg #[.int .u8 t.k,.string t.t,.int .i64 t.a,.int .i64 t.l,.int .i64 t.c,.int .i64 t.f]] w fun e w'=>e=.returned (.bool (decide (t.k=7\/t.k=8)))/\Below w.heap.size w w':=by
 have HB:Hid (∀o,Db w (w.alloc o)):=fun o=>(Below.refl _ _).alloc (Nat.le_refl _) _
 have HQ:Hid (decide (t.k=7\/t.k=8)=(t.k == 7 || t.k == 8)):=by show _=_;by_cases a:t.k=7 <;> by_cases b:t.k=8 <;> simp [a,b]
 go_enter Tryz.func64,Tryz.ntmps64
 go_wp2_with fail
 all_goals (go_ret;rw [HQ.out];refine ⟨?_,HB.out _⟩;simp_all)
theorem jj (t:Tv) (w:World):Da 74 #[.agg #[.int .u8 t.k,.string t.t,.int .i64 t.a,.int .i64 t.l,.int .i64 t.c,.int .i64 t.f]] w fun e w'=>e=.returned (.agg #[.int .u8 1,.string t.t,.int .i64 0,.int .i64 0,.bool false])/\Below w.heap.size w w':=by
 obtain ⟨V,e1⟩:∃V,w.alloc (.cells #[.int .u8 t.k,.string t.t,.int .i64 t.a,.int .i64 t.l,.int .i64 t.c,.int .i64 t.f] 37)=V:=⟨_,rfl⟩;have hb:Below w.heap.size w V:=by rw [<-e1];exact (Below.refl _ _).alloc (Nat.le_refl _) _
 have hs:V.heap.size=w.heap.size+1:=by rw [<-e1];show (w.heap.push _).size=_;simp
 have hn:=am V (.cells #[.int .u8 1,.string t.t,.int .i64 0,.int .i64 0,.bool false] 57);rw [hs,<-e1] at hn;have HN:Hid ((V.alloc (.cells #[.int .u8 1,.string t.t,.int .i64 0,.int .i64 0,.bool false] 57))=(V.alloc (.cells #[.int .u8 1,.string t.t,.int .i64 0,.int .i64 0,.bool false] 57))/\∀o,Below w.heap.size w (V.alloc o)):=⟨rfl,fun o=>hb.alloc hb.size _⟩;rw [<-e1] at HN;have m0:=aa (k:=0) hn rfl;have m1:=aa (k:=1) hn rfl;have m2:=aa (k:=2) hn rfl;have m3:=aa (k:=3) hn rfl;have m4:=aa (k:=4) hn rfl;have HM:Hid _:=And.intro m0 (And.intro m1 (And.intro m2 (And.intro m3 m4)));clear e1 hs hn hb m0 m1 m2 m3 m4
 go_enter Tryz.func74,Tryz.ntmps74
 go_wp2_with fail
 obtain ⟨m0,m1,m2,m3,m4⟩:=HM.out;refine bodyPost_ret (v:=.agg #[.int .u8 1,.string t.t,.int .i64 0,.int .i64 0,.bool false]) (by simp [results,Tryz.f74,go_sem,m0,m1,m2,m3,m4]) rfl ?_;exact ⟨rfl,HN.out.2 _⟩
theorem sW (k:Int) (w:World):Da 66 #[.int .u8 k] w fun e w'=>e=.returned (.bool (dj k))/\w'=w:=by
 by_cases h:dj k=true
 ·have h2:=of_decide_eq_true h;rw [h]
  rcases h2 with rfl|rfl|rfl|rfl|rfl|rfl|rfl|rfl|rfl|rfl|rfl|rfl
  all_goals (
   go_enter Tryz.func66,Tryz.ntmps66
   go_wp2_with fail
   go_ret
   exact ⟨rfl,rfl⟩)
 ·have h2:¬_:=fun e=>h (decide_eq_true e)
  rw [Bool.eq_false_iff.2 h];simp only [not_or] at h2;obtain ⟨a1,a2,a3,a4,a5,a6,a7,a8,a9,b1,b2,b3⟩:=h2;have p1:(k == 3)=false:=by simpa using a1
  have p2:(k == 4)=false:=by simpa using a2
  have p3:(k == 5)=false:=by simpa using a3
  have p4:(k == 11)=false:=by simpa using a4
  have p5:(k == 13)=false:=by simpa using a5
  have p6:(k == 14)=false:=by simpa using a6
  have p7:(k == 15)=false:=by simpa using a7
  have p8:(k == 16)=false:=by simpa using a8
  have p9:(k == 17)=false:=by simpa using a9
  have r1:(k == 18)=false:=by simpa using b1
  have r2:(k == 19)=false:=by simpa using b2
  have r3:(k == 20)=false:=by simpa using b3
  clear h a1 a2 a3 a4 a5 a6 a7 a8 a9 b1 b2 b3
  go_enter Tryz.func66,Tryz.ntmps66
  go_wp2_with fail
  go_ret
  exact ⟨rfl,rfl⟩
theorem dC {W:World}{g:Nat}{dn:Bool}(c0:W.cell? ⟨g,0,none⟩=some (.bool dn)):Da 25 #[spg g] W fun r w'=>r=.returned (.int .i64 (if dn then 4 else 0))/\w'=W:=by
 cases dn
 all_goals (
  go_enter Tryz.func25,Tryz.ntmps25
  go_wp2_with fail
  go_ret
  exact ⟨rfl,rfl⟩)
end Go.Proofs.YtpdlohfdjiaegaaGreatDoor
namespace Go.Proofs.YtpdlohfdjiaegaaGreatDoor
open Go.RowKit
open Lw (Dc bE rt frm dep rtT rtN dcs aD bk)
variable {l:List Dc}{W w:World}{α:Type}{ao:Option Addr}{cap g:Nat}{st:Sy}{vn vw:Value}
def Ld (w:World) (ao:Option Addr) (l:List Dc):Prop:=∀j d,l[j]?=some d->∃b off,ao=some ⟨b,off,none⟩ /\
 w.cell? ⟨b,off+j*5,none⟩=some (.int .u8 d.k)/\w.cell? ⟨b,off+j*5+1,none⟩=some (.string d.t)/\w.cell? ⟨b,off+j*5+2,none⟩=some (.int .i64 d.b)/\w.cell? ⟨b,off+j*5+3,none⟩=some (.int .i64 d.i)/\w.cell? ⟨b,off+j*5+4,none⟩=some (.bool d.e)
theorem Ld.kp {S:Nat->Prop}{w w':World}{ao:Option Addr}{l:List Dc}(h:Ld w ao l) (hb:Kp S w w') (hS:∀a,ao=some a->¬S a.block):Ld w' ao l:=by
 intro j a ha;obtain ⟨b,off,h1,c0,c1,c2,c3,c4⟩:=h j a ha;have hlt:=World.block_lt_of_cell? _ _ c0;have e:w'.heap[b]?=w.heap[b]?:=hb.block b hlt (hS _ h1);exact ⟨b,off,h1,(World.cell?_of_block (a:=⟨b,_,none⟩) e).trans c0,(World.cell?_of_block (a:=⟨b,_,none⟩) e).trans c1,(World.cell?_of_block (a:=⟨b,_,none⟩) e).trans c2,(World.cell?_of_block (a:=⟨b,_,none⟩) e).trans c3,(World.cell?_of_block (a:=⟨b,_,none⟩) e).trans c4⟩
theorem Ld.below {w':World}(h:Ld w ao l) (hb:Below w.heap.size w w'):Ld w' ao l:=h.kp (Kp.of_below (S:=fun _=>False) hb) (fun _ _ h=>h)
theorem Ld.take (h:Ld w ao l) (n:Nat):Ld w ao (l.take n):=by
 intro j d hj;rw [List.getElem?_take] at hj
 split at hj
 ·exact h j d hj
 ·cases hj
theorem mZ {p:Option Addr}{n:Nat}(h:Rd w (.slice p n cap) l):Ld w p l:=by
 intro j d hj
 rcases h.2 with ⟨h1,h0⟩|⟨g,cap',cur,h1,_⟩
 ·have:l=[]:=List.eq_nil_of_length_eq_zero h0;subst this;simp at hj
 ·cases h1
  have hc:∀(k:Nat) (u:Value),(dcs l)[k]?=some u->w.cell? ⟨g,k,none⟩=some u:=fun k u hu=>by
   have:=World.ownsRow.cells h (g:=g) rfl k u hu;rw [Addr.add_lit,Nat.zero_add] at this;exact this
  refine ⟨g,0,rfl,?_,?_,?_,?_,?_⟩
  ·rw [Nat.zero_add];exact hc _ _ (aH Dc.cs 5 Lw.Dc.cs_len l j 0 d _ hj rfl)
  ·rw [Nat.zero_add];exact hc _ _ (aH Dc.cs 5 Lw.Dc.cs_len l j 1 d _ hj rfl)
  ·rw [Nat.zero_add];exact hc _ _ (aH Dc.cs 5 Lw.Dc.cs_len l j 2 d _ hj rfl)
  ·rw [Nat.zero_add];exact hc _ _ (aH Dc.cs 5 Lw.Dc.cs_len l j 3 d _ hj rfl)
  ·rw [Nat.zero_add];exact hc _ _ (aH Dc.cs 5 Lw.Dc.cs_len l j 4 d _ hj rfl)
theorem gT (p:α->Bool) (l:List α) (k:Nat) (x:α) (hx:l[k]?=some x) (h:(l.take k).any p=false):(l.take (k+1)).any p=p x:=by
 rw [List.take_add_one,hx,List.any_append,h];simp
theorem gS (p:α->Bool) (l:List α) (k:Nat) (h:(l.take k).any p=true):l.any p=true:=by
 rw [List.any_eq_true] at h ⊢;obtain ⟨x,hx,e⟩:=h;exact ⟨x,List.mem_of_mem_take hx,e⟩
theorem vL (ao:Option Addr) (l:List Dc) (cap:Nat) (W:World) (h:Ld W ao l) (hl:l.length<=1000000000) :
  Da 128 #[.slice ao l.length cap,.func (.func 123) #[] #[]] W fun r w'=>(∃z:Int,r=.returned (.int .i64 z)/\(decide (0<=z)=l.any aK))/\Below W.heap.size W w':=by
 have H:Hid (Ld W ao l):=h;clear h;have HP:Hid (∀(d:Dc) (V:World),Da 123 #[.agg #[.int .u8 d.k,.string d.t,.int .i64 d.b,.int .i64 d.i,.bool d.e]] V fun e w'=>e=.returned (.bool (aK d))/\Db V w'):=nI
 go_enter Tryz.func128,Tryz.ntmps128
 go_wp2_with fail
 go_loopw [5,8] (fun _ i wr=>∃k:Nat,k<=l.length/\i=.int .i64 k/\Hid ((l.take k).any aK=false)/\Hid (Below W.heap.size W wr)) (fun _ i _=>l.length-(intOf i).toNat)
 case atStart=>exact ⟨0,Nat.zero_le _,rfl,by show _=_;simp,Below.refl _ _⟩
 case round=>
  obtain ⟨k,hk,rfl,HI,HB⟩:=hrel
  by_cases hlt:k<l.length
  ·have q1:(k:Int)<l.length:=by omega
   have q0:(0:Int)<=k:=by omega
   obtain ⟨x,hx⟩:∃x,l[k]?=some x:=⟨_,List.getElem?_eq_getElem hlt⟩;obtain ⟨b,off,rfl,c0,c1,c2,c3,c4⟩:=(H.out.below HB.out) k x hx;have HS:Hid ((l.take (k+1)).any aK=aK x):=gT aK l k x hx HI.out;have HT:Hid ((l.take (k+1)).any aK=true->l.any aK=true):=gS aK l _;clear hx
   by_cases he:aK x=true
   ·go_wp2_with (go_at_call 123;refine (HP.out x _).mono ?_;rintro e w1 ⟨rfl,hb1⟩;rw [he];have HC:Hid (Db W w1):=HB.out.trans (hb1.mono HB.out.size);clear hb1)
    go_ret
    exact ⟨⟨_,rfl,by rw [HT.out (HS.out.trans he)];simp⟩,HC.out⟩
   ·have he':aK x=false:=by simpa using he
    clear he
    go_wp2_with (go_at_call 123;refine (HP.out x _).mono ?_;rintro e w1 ⟨rfl,hb1⟩;rw [he'];have HC:Hid (Db W w1):=HB.out.trans (hb1.mono HB.out.size);clear hb1)
    exact ⟨⟨k+1,hlt,by go_num,HS.out.trans he',HC⟩,by simp [intOf];omega⟩
  ·obtain rfl:k=l.length:=by omega
   have q1:¬((l.length:Int)<l.length):=by omega
   go_wp2_with fail
   go_ret
   refine ⟨⟨_,rfl,?_⟩,HB.out⟩;have:=HI.out;rw [List.take_length] at this;rw [this];rfl
theorem wu (ao:Option Addr) (l:List Dc) (cap:Nat) (W:World) (h:Ld W ao l) (hl:l.length<=1000000000) :
  Da 79 #[.slice ao l.length cap,.func (.func 123) #[] #[]] W fun r w'=>r=.returned (.bool (l.any aK))/\Below W.heap.size W w':=by
 have H:Hid (Da 128 #[.slice ao l.length cap,.func (.func 123) #[] #[]] W fun r w'=>(∃z:Int,r=.returned (.int .i64 z)/\(decide (0<=z)=l.any aK))/\Db W w'):=vL ao l cap W h hl;clear h
 generalize l.any aK=b at *
 go_enter Tryz.func79,Tryz.ntmps79
 go_wp2_with (go_at_call 128;refine H.out.mono ?_;rintro r w1 ⟨⟨z,rfl,hz⟩,hb1⟩;have HB:Hid (Db W w1):=hb1;clear hb1;subst hz)
 go_ret
 exact ⟨by simp,HB.out⟩
theorem vJ (ao:Option Addr) (l:List Dc) (cap:Nat) (W:World) (h:Ld W ao l) (hl:l.length<=1000000000) :
  Da 128 #[.slice ao l.length cap,.func (.func 47) #[] #[]] W fun r w'=>(∃z:Int,r=.returned (.int .i64 z)/\(decide (0<=z)=l.any aX))/\Below W.heap.size W w':=by
 have H:Hid (Ld W ao l):=h;clear h;have HP:Hid (∀(d:Dc) (V:World),Da 47 #[.agg #[.int .u8 d.k,.string d.t,.int .i64 d.b,.int .i64 d.i,.bool d.e]] V fun e w'=>e=.returned (.bool (aX d))/\Db V w'):=vM
 go_enter Tryz.func128,Tryz.ntmps128
 go_wp2_with fail
 go_loopw [5,8] (fun _ i wr=>∃k:Nat,k<=l.length/\i=.int .i64 k/\Hid ((l.take k).any aX=false)/\Hid (Below W.heap.size W wr)) (fun _ i _=>l.length-(intOf i).toNat)
 case atStart=>exact ⟨0,Nat.zero_le _,rfl,by show _=_;simp,Below.refl _ _⟩
 case round=>
  obtain ⟨k,hk,rfl,HI,HB⟩:=hrel
  by_cases hlt:k<l.length
  ·have q1:(k:Int)<l.length:=by omega
   have q0:(0:Int)<=k:=by omega
   obtain ⟨x,hx⟩:∃x,l[k]?=some x:=⟨_,List.getElem?_eq_getElem hlt⟩;obtain ⟨b,off,rfl,c0,c1,c2,c3,c4⟩:=(H.out.below HB.out) k x hx;have HS:Hid ((l.take (k+1)).any aX=aX x):=gT aX l k x hx HI.out;have HT:Hid ((l.take (k+1)).any aX=true->l.any aX=true):=gS aX l _;clear hx
   by_cases he:aX x=true
   ·go_wp2_with (go_at_call 47;refine (HP.out x _).mono ?_;rintro e w1 ⟨rfl,hb1⟩;rw [he];have HC:Hid (Db W w1):=HB.out.trans (hb1.mono HB.out.size);clear hb1)
    go_ret
    exact ⟨⟨_,rfl,by rw [HT.out (HS.out.trans he)];simp⟩,HC.out⟩
   ·have he':aX x=false:=by simpa using he
    clear he
    go_wp2_with (go_at_call 47;refine (HP.out x _).mono ?_;rintro e w1 ⟨rfl,hb1⟩;rw [he'];have HC:Hid (Db W w1):=HB.out.trans (hb1.mono HB.out.size);clear hb1)
    exact ⟨⟨k+1,hlt,by go_num,HS.out.trans he',HC⟩,by simp [intOf];omega⟩
  ·obtain rfl:k=l.length:=by omega
   have q1:¬((l.length:Int)<l.length):=by omega
   go_wp2_with fail
   go_ret
   refine ⟨⟨_,rfl,?_⟩,HB.out⟩;have:=HI.out;rw [List.take_length] at this;rw [this];rfl
theorem wo (ao:Option Addr) (l:List Dc) (cap:Nat) (W:World) (h:Ld W ao l) (hl:l.length<=1000000000) :
  Da 79 #[.slice ao l.length cap,.func (.func 47) #[] #[]] W fun r w'=>r=.returned (.bool (l.any aX))/\Below W.heap.size W w':=by
 have H:Hid (Da 128 #[.slice ao l.length cap,.func (.func 47) #[] #[]] W fun r w'=>(∃z:Int,r=.returned (.int .i64 z)/\(decide (0<=z)=l.any aX))/\Db W w'):=vJ ao l cap W h hl;clear h
 generalize l.any aX=b at *
 go_enter Tryz.func79,Tryz.ntmps79
 go_wp2_with (go_at_call 128;refine H.out.mono ?_;rintro r w1 ⟨⟨z,rfl,hz⟩,hb1⟩;have HB:Hid (Db W w1):=hb1;clear hb1;subst hz)
 go_ret
 exact ⟨by simp,HB.out⟩
theorem tP (h:SV W g st vn vw) (hl:st.ws.length<=1000000000) :
  Da 46 #[spg g,.func (.func 47) #[] #[]] W fun r w'=>r=.returned (.bool (st.ws.any aX))/\Below W.heap.size W w':=by
 obtain ⟨p,cap,e,_⟩:=aS h.rd;subst e;have H:Hid (Da 79 #[.slice p st.ws.length cap,.func (.func 47) #[] #[]] W fun r w'=>r=.returned (.bool (st.ws.any aX))/\Db W w'):=wo p st.ws cap W (mZ h.rd) hl;obtain ⟨c0,c1,c2,c3,c4,c5,c6,c7⟩:=h.sb.cells
 generalize st.ws.any aX=b at *
 generalize st.ws.length=n at *
 clear h c0 c1 c3 c4 c5 c6 c7
 go_enter Tryz.func46,Tryz.ntmps46
 go_wp2_with (go_at_call 79;refine H.out.mono ?_;rintro r w1 ⟨rfl,hb1⟩;have HB:Hid (Db W w1):=hb1;clear hb1)
 go_ret
 exact ⟨rfl,HB.out⟩
theorem vK (ao:Option Addr) (l:List Dc) (cap:Nat) (W:World) (h:Ld W ao l) (hl:l.length<=1000000000) :
  Da 128 #[.slice ao l.length cap,.func (.func 72) #[] #[]] W fun r w'=>(∃z:Int,r=.returned (.int .i64 z)/\(decide (0<=z)=l.any bm))/\Below W.heap.size W w':=by
 have H:Hid (Ld W ao l):=h;clear h;have HP:Hid (∀(d:Dc) (V:World),Da 72 #[.agg #[.int .u8 d.k,.string d.t,.int .i64 d.b,.int .i64 d.i,.bool d.e]] V fun e w'=>e=.returned (.bool (bm d))/\Db V w'):=vN
 go_enter Tryz.func128,Tryz.ntmps128
 go_wp2_with fail
 go_loopw [5,8] (fun _ i wr=>∃k:Nat,k<=l.length/\i=.int .i64 k/\Hid ((l.take k).any bm=false)/\Hid (Below W.heap.size W wr)) (fun _ i _=>l.length-(intOf i).toNat)
 case atStart=>exact ⟨0,Nat.zero_le _,rfl,by show _=_;simp,Below.refl _ _⟩
 case round=>
  obtain ⟨k,hk,rfl,HI,HB⟩:=hrel
  by_cases hlt:k<l.length
  ·have q1:(k:Int)<l.length:=by omega
   have q0:(0:Int)<=k:=by omega
   obtain ⟨x,hx⟩:∃x,l[k]?=some x:=⟨_,List.getElem?_eq_getElem hlt⟩;obtain ⟨b,off,rfl,c0,c1,c2,c3,c4⟩:=(H.out.below HB.out) k x hx;have HS:Hid ((l.take (k+1)).any bm=bm x):=gT bm l k x hx HI.out;have HT:Hid ((l.take (k+1)).any bm=true->l.any bm=true):=gS bm l _;clear hx
   by_cases he:bm x=true
   ·go_wp2_with (go_at_call 72;refine (HP.out x _).mono ?_;rintro e w1 ⟨rfl,hb1⟩;rw [he];have HC:Hid (Db W w1):=HB.out.trans (hb1.mono HB.out.size);clear hb1)
    go_ret
    exact ⟨⟨_,rfl,by rw [HT.out (HS.out.trans he)];simp⟩,HC.out⟩
   ·have he':bm x=false:=by simpa using he
    clear he
    go_wp2_with (go_at_call 72;refine (HP.out x _).mono ?_;rintro e w1 ⟨rfl,hb1⟩;rw [he'];have HC:Hid (Db W w1):=HB.out.trans (hb1.mono HB.out.size);clear hb1)
    exact ⟨⟨k+1,hlt,by go_num,HS.out.trans he',HC⟩,by simp [intOf];omega⟩
  ·obtain rfl:k=l.length:=by omega
   have q1:¬((l.length:Int)<l.length):=by omega
   go_wp2_with fail
   go_ret
   refine ⟨⟨_,rfl,?_⟩,HB.out⟩;have:=HI.out;rw [List.take_length] at this;rw [this];rfl
theorem wq (ao:Option Addr) (l:List Dc) (cap:Nat) (W:World) (h:Ld W ao l) (hl:l.length<=1000000000) :
  Da 79 #[.slice ao l.length cap,.func (.func 72) #[] #[]] W fun r w'=>r=.returned (.bool (l.any bm))/\Below W.heap.size W w':=by
 have H:Hid (Da 128 #[.slice ao l.length cap,.func (.func 72) #[] #[]] W fun r w'=>(∃z:Int,r=.returned (.int .i64 z)/\(decide (0<=z)=l.any bm))/\Db W w'):=vK ao l cap W h hl;clear h
 generalize l.any bm=b at *
 go_enter Tryz.func79,Tryz.ntmps79
 go_wp2_with (go_at_call 128;refine H.out.mono ?_;rintro r w1 ⟨⟨z,rfl,hz⟩,hb1⟩;have HB:Hid (Db W w1):=hb1;clear hb1;subst hz)
 go_ret
 exact ⟨by simp,HB.out⟩
theorem tQ (h:SV W g st vn vw) (hl:st.ws.length<=1000000000) :
  Da 46 #[spg g,.func (.func 72) #[] #[]] W fun r w'=>r=.returned (.bool (st.ws.any bm))/\Below W.heap.size W w':=by
 obtain ⟨p,cap,e,_⟩:=aS h.rd;subst e;have H:Hid (Da 79 #[.slice p st.ws.length cap,.func (.func 72) #[] #[]] W fun r w'=>r=.returned (.bool (st.ws.any bm))/\Db W w'):=wq p st.ws cap W (mZ h.rd) hl;obtain ⟨c0,c1,c2,c3,c4,c5,c6,c7⟩:=h.sb.cells
 generalize st.ws.any bm=b at *
 generalize st.ws.length=n at *
 clear h c0 c1 c3 c4 c5 c6 c7
 go_enter Tryz.func46,Tryz.ntmps46
 go_wp2_with (go_at_call 79;refine H.out.mono ?_;rintro r w1 ⟨rfl,hb1⟩;have HB:Hid (Db W w1):=hb1;clear hb1)
 go_ret
 exact ⟨rfl,HB.out⟩
theorem Kp.setRow (w:World) (g:Nat) (cs:Array Value):Kp (fun j=>j=g) w (w.setRow g cs):=
 ⟨rfl,rfl,rfl,by show _<=(w.setRow g cs).heap.size;simp [World.setRow],fun j hj hS=>setRow_other w g j cs hS⟩
theorem fv:∃i0,Tryz.prog.info? 57=some i0/\i0.zero=some (.agg #[.int .u8 0,.string ⟨#[]⟩,.int .i64 0,.int .i64 0,.bool false])/\i0.size=5/\i0.bytes=48:=info_parts Tryz.info57
theorem gq:(Tryz.prog.info? 57).map (·.size)=some 5:=by
 obtain ⟨i0,hi,_,h1,_⟩:=fv;rw [hi];simp [h1]
theorem dM {W:World}{g:Nat}{cur:List Value}{t:TypeId}{f:Nat × Nat}(h:W.heap[g]?=some (.cells cur.toArray t f)) (o:Nat) (cs:List Value) (hc:∀j v,cs[j]?=some v->cur[o+j]?=some v):∀j v,cs[j]?=some v->W.cell? ((⟨g,o,none⟩:Addr).add j)=some v:=by
 intro j v hj;rw [Addr.add_lit];simp [World.cell?,h,hc j v hj]
theorem oi (l:List Dc) (k:Nat):(dcs l).take (k*5)=dcs (l.take k):=kP Dc.cs 5 Lw.Dc.cs_len k l
theorem j4 (l:List Dc) (k:Nat):(dcs l).drop (k*5)=dcs (l.drop k):=ip Dc.cs 5 Lw.Dc.cs_len k l
theorem j0 (d:Dc):dcs [d]=[.int .u8 d.k,.string d.t,.int .i64 d.b,.int .i64 d.i,.bool d.e]:=by simp [dcs,aW,Dc.cs]
theorem mK (A Z D R:List α) (k m:Nat) (hk:A.length=k) (hD:D.length=m) (hz:m+R.length<=Z.length) :
  ((A++Z).take k++D++(A++Z).drop (k+m)).take (k+m)++R++((A++Z).take k++D++(A++Z).drop (k+m)).drop (k+m+R.length)=A++D++R++Z.drop (m+R.length):=by
 subst hk;subst hD;rw [List.take_left,List.drop_append,List.drop_eq_nil_of_le (by omega),List.nil_append,Nat.add_sub_cancel_left];have e1:(A++D).length=A.length+D.length:=List.length_append;rw [List.take_append_of_le_length (by omega),<-e1,List.take_length,List.drop_append,List.drop_eq_nil_of_le (by omega),List.nil_append,Nat.add_sub_cancel_left,List.drop_drop]
theorem ph {v:Value}(d:Dc) {gv:Nat}(h:Rd W v l) (hg:W.heap[gv]?=some (.cells #[.int .u8 d.k,.string d.t,.int .i64 d.b,.int .i64 d.i,.bool d.e] 57 (0,0))) (hl:l.length<=1000000000) :
  Da 48 #[v,.int .i64 l.length,.slice (some ⟨gv,0,none⟩) 1 1] W fun r w'=>∃v',r=.returned v'/\Rd w' v' (l++[d])/\Kp (fun k=>v.ownBlock=some k) W w'/\Nb W v v':=by
 obtain ⟨p,cap,rfl,hc1,hc2⟩:=aS h;have HR:Hid (Rd W (.slice p l.length cap) l):=h;have HG:Hid (W.heap[gv]?=some (.cells (dcs [d]).toArray 57 (0,0))):=by rw [j0];exact hg
 have q1:(0:Int)<=l.length:=by omega
 have q2:(cap:Int)<=9223372036854775807:=by unfold maxLen at hc2;omega
 clear h hg
 by_cases hcc:cap=l.length
 ·subst hcc
  go_enter Tryz.func48,Tryz.ntmps48
  go_wp2_with (at_builtin;refine gR rfl _ _ rfl (.slice p l.length l.length) l [d] rfl HR.out gv 1 rfl HG.out (by simp;omega) ?_;intro v' w' h1 h2 h3;have HX:Hid (Rd w' v' (l++[d])/\Kp (fun k=>(Value.slice p l.length l.length).ownBlock=some k) W w'/\Nb W (.slice p l.length l.length) v'):=⟨h1,(Kp.of_grown h2).sub (fun k e=>e.symm),h3⟩;clear h1 h2 h3)
  go_ret
  exact ⟨_,rfl,HX.out⟩
 ·go_enter Tryz.func48,Tryz.ntmps48
  go_wp2_with (at_builtin;refine gR rfl _ _ rfl (.slice p l.length cap) l [d] rfl HR.out gv 1 rfl HG.out (by simp;omega) ?_;intro v' w' h1 h2 h3;have HX:Hid (Rd w' v' (l++[d])/\Kp (fun k=>(Value.slice p l.length cap).ownBlock=some k) W w'/\Nb W (.slice p l.length cap) v'):=⟨h1,(Kp.of_grown h2).sub (fun k e=>e.symm),h3⟩;clear h1 h2 h3)
  go_ret
  exact ⟨_,rfl,HX.out⟩
set_option maxRecDepth 100000 in
theorem nJ {b i:Nat}(d:Dc) {gv:Nat}(h:Rd W (.slice (some ⟨b,0,none⟩) l.length cap) l) (hi:i<l.length) (hroom:l.length+1<=cap) (hg:W.heap[gv]?=some (.cells #[.int .u8 d.k,.string d.t,.int .i64 d.b,.int .i64 d.i,.bool d.e] 57 (0,0))) (hne:gv≠b) (hl:l.length<=1000000000) :
  Da 48 #[.slice (some ⟨b,0,none⟩) l.length cap,.int .i64 i,.slice (some ⟨gv,0,none⟩) 1 1] W fun r w'=>∃v',r=.returned v'/\Rd w' v' (l.take i++d :: l.drop i)/\Kp (fun k=>k=b) W w'/\Nb W (.slice (some ⟨b,0,none⟩) l.length cap) v':=by
 obtain ⟨cur,hb,hcm,hcs,htk⟩:∃cur:List Value,W.heap[b]?=some (.cells cur.toArray 57 (0,0))/\cap<=maxLen/\cur.length=cap*5/\cur.take (l.length*5)=dcs l:=by
  rcases h.2 with ⟨h1,_⟩|⟨g,cap',cur,h1,_,h3,_,h5,h6,h7⟩
  ·cases h1
  ·cases h1;exact ⟨cur.toList,by simpa using h3,h5,by simpa using h6,h7⟩
 obtain ⟨n,hn⟩:∃n,l.length=n:=⟨_,rfl⟩;rw [hn] at hi hroom hl htk;have hcap:(cap:Int)<=9223372036854775807:=by unfold maxLen at hcm;omega
 have hR:(dcs (l.drop i)).length=(n-i)*5:=by rw [aD,List.length_drop,hn]
 have hcp1:∀ty dc sc,(Builtin.copy_ #[46,46] ty #[.slice (some ⟨b,(i+1)*5,none⟩) (n-i) dc,.slice (some ⟨b,i*5,none⟩) (n+1-i) sc]).run Tryz.prog W.drew=.ok (goInt ((n-i:Nat):Int)) (W.drew.setRow b (cur.take ((i+1)*5)++dcs (l.drop i)++cur.drop ((i+1)*5+(dcs (l.drop i)).length)).toArray):=fun ty dc sc=>by
  have hm:Nat.min (n+1-i) (n-i)=n-i:=by show min _ _=_;omega
  have:=cH (P:=Tryz.prog) W.drew 46 46 ty 57 5 b ((i+1)*5) (n-i) dc ⟨b,i*5,none⟩ (n+1-i) sc cur.toArray 57 (dcs (l.drop i)) Tryz.underlying46 gq hb (by rw [hR,hm]) (dM (W:=W.drew) hb (i*5) _ (fun j v hj=>by
   rw [<-j4,List.getElem?_drop,<-htk,List.getElem?_take] at hj
   split at hj
   ·exact hj
   ·cases hj)) (by rw [hR];simp;omega) (bk _)
  rw [hm] at this
  simpa using this
 obtain ⟨c1,hc1⟩:∃c1:List Value,cur.take ((i+1)*5)++dcs (l.drop i)++cur.drop ((i+1)*5+(dcs (l.drop i)).length)=c1:=⟨_,rfl⟩;rw [hc1] at hcp1;have hl1:c1.length=cap*5:=by rw [<-hc1];simp only [List.length_append,List.length_take,List.length_drop,hR,hcs];omega
 obtain ⟨W1,hW1⟩:∃W1,W.drew.setRow b c1.toArray=W1:=⟨_,rfl⟩;rw [hW1] at hcp1;have hb1:W1.heap[b]?=some (.cells c1.toArray 57 (0,0)):=by rw [<-hW1];exact setRow_heap W.drew b _ _ _ _ hb
 have hk1:Kp (fun k=>k=b) W W1:=by rw [<-hW1];exact ((Kp.of_below ((Below.refl _ W).drew)).step (Kp.setRow W.drew b c1.toArray) (fun _ _ h=>h))
 have hg1:=hk1.blk hg hne
 have hcp2:∀ty dc,(Builtin.copy_ #[46,46] ty #[.slice (some ⟨b,i*5,none⟩) (n+1-i) dc,.slice (some ⟨gv,0,none⟩) 1 1]).run Tryz.prog W1=.ok (goInt 1) (W1.setRow b (c1.take (i*5)++dcs [d]++c1.drop (i*5+5)).toArray):=fun ty dc=>by
  have hm:Nat.min 1 (n+1-i)=1:=by show min _ _=_;omega
  have:=cH (P:=Tryz.prog) W1 46 46 ty 57 5 b (i*5) (n+1-i) dc ⟨gv,0,none⟩ 1 1 c1.toArray 57 (dcs [d]) Tryz.underlying46 gq hb1 (by rw [aD,hm];rfl) (dM (cur:=dcs [d]) (by rw [j0];exact hg1) 0 _ (fun j v hj=>by rw [Nat.zero_add];exact hj)) (by rw [aD];simp;omega) (bk _);rw [hm] at this
  simpa [aD] using this
 obtain ⟨c2,hc2⟩:∃c2:List Value,c1.take (i*5)++dcs [d]++c1.drop (i*5+5)=c2:=⟨_,rfl⟩;rw [hc2] at hcp2;have hl2:c2.length=cap*5:=by rw [<-hc2];simp only [List.length_append,List.length_take,List.length_drop,aD,hl1,List.length_cons,List.length_nil];omega
 have hk2:Kp (fun k=>k=b) W (W1.setRow b c2.toArray):=hk1.trans (Kp.setRow W1 b _);have hb2:(W1.setRow b c2.toArray).heap[b]?=some (.cells c2.toArray 57 (0,0)):=setRow_heap W1 b _ _ _ _ hb1
 have hfin:c2.take ((n+1)*5)=dcs (l.take i++d :: l.drop i):=by
  have e1:c1.take (i*5)=dcs (l.take i):=by
   rw [<-hc1,List.append_assoc,List.take_append_of_le_length (by rw [List.length_take,hcs];omega),List.take_take,Nat.min_eq_left (by omega),<-oi,<-htk,List.take_take,Nat.min_eq_left (by omega)]
  have e2:c1.drop (i*5+5)=dcs (l.drop i)++cur.drop ((i+1)*5+(dcs (l.drop i)).length):=by
   rw [<-hc1,List.append_assoc,List.drop_append,List.drop_eq_nil_of_le (by rw [List.length_take,hcs];omega),List.nil_append,List.length_take,hcs];rw [show i*5+5-min ((i+1)*5) (cap*5)=0 by omega,List.drop_zero]
  have e3:dcs (l.take i++d :: l.drop i)=dcs (l.take i)++(dcs [d]++dcs (l.drop i)):=by rw [eb,show d :: l.drop i=[d]++l.drop i from rfl,eb]
  rw [<-hc2,e1,e2,e3,List.append_assoc,<-List.append_assoc (dcs [d]),<-List.append_assoc];rw [List.take_append_of_le_length (by simp only [List.length_append,aD,List.length_take,List.length_drop,hn,List.length_cons,List.length_nil];omega)];rw [List.take_of_length_le (by simp only [List.length_append,aD,List.length_take,List.length_drop,hn,List.length_cons,List.length_nil];omega)]
 have HX:Hid (Rd (W1.setRow b c2.toArray) (.slice (some ⟨b,0,none⟩) (n+1) cap) (l.take i++d :: l.drop i)/\Kp (fun k=>k=b) W (W1.setRow b c2.toArray)/\Nb W (.slice (some ⟨b,0,none⟩) n cap) (.slice (some ⟨b,0,none⟩) (n+1) cap)):=by
  have hlen:(l.take i++d :: l.drop i).length=n+1:=by simp [hn];omega
  refine ⟨⟨by rw [aD],.inr ⟨b,cap,c2.toArray,by rw [hlen],Nat.zero_le _,hb2,by rw [hlen];omega,hcm,by simp [hl2],?_⟩⟩,hk2,.inl rfl⟩;rw [hlen]
  simpa using hfin
 have hov:∀lb cb,(callFunc 80 #[.slice (some ⟨gv,0,none⟩) 1 1,.slice (some ⟨b,(i+1)*5,none⟩) lb cb]).run Tryz.prog W=.ok (.value (.bool false)) W:=fun lb cb=>by
  have hz:∀w,(Go.sizeOf 57).run Tryz.prog w=.ok 5 w:=fun w=>by
   obtain ⟨i0,hi0,_,h1,_⟩:=fv;simp [sizeOf,typeInfo,hi0,h1]
  rw [run_callFunc_extern Tryz.func80 (by kernel_rfl) (by kernel_rfl) (by kernel_rfl) (e:=Extern.SlicesOverlaps.overlaps #[46,46] #[4]) (by kernel_rfl),
   Lib.run_overlaps_apart W 46 4 57 Tryz.underlying46 5 hz ⟨gv,0,none⟩ ⟨b,(i+1)*5,none⟩ 1 1 lb cb hne 57 57 5 (cap*5) (by simp [World.shape?,hg]) (by simp [World.shape?,hb,hcs]) (by omega) (ak hg) (ak hg)]
  rfl
 rw [hn];clear h hb hcm hcs htk hR hc1 hl1 hW1 hb1 hk1 hg1 hc2 hl2 hk2 hb2 hfin hg hn;have z1:¬((i:Int)=(n:Int)):=by omega
 have z2:IntKind.i64.wrap ((n:Int)+1)=(n:Int)+1:=by rw [IntKind.wrap_i64];omega
 have z3:¬((cap:Int)<(n:Int)+1):=by omega
 have z4:IntKind.i64.wrap ((i:Int)+1)=(i:Int)+1:=by rw [IntKind.wrap_i64];omega
 have z5:¬(cap=i+1):=by omega
 have z6:¬(cap=i):=by omega
 have z7:((i:Int)+1).toNat=i+1:=by omega
 have z8:(0:Int)<=(i:Int)+1:=by omega
 have z9:(i:Int)<=(n:Int):=by omega
 have y1:(i:Int)<=(n:Int)+1:=by omega
 have y2:((n:Int)+1).toNat=n+1:=by omega
 have y3:(0:Int)<=(n:Int)+1:=by omega
 have y4:(n:Int)+1<=(cap:Int):=by omega
 have y5:(i:Int)+1<=(n:Int)+1:=by omega
 go_enter Tryz.func48,Tryz.ntmps48
 go_wp2_with (simp only [hov])
 go_region_law (refine step_copy_r rfl _ _ 46 46 rfl _ _ (by simp [Act.eval,Act.put]) (by simp [Act.eval,Act.put]) (hcp1 _ _ _) ?_)
 go_wp2_with (at_builtin;refine wpList_copy_r _ rfl _ _ 46 46 rfl _ _ rfl rfl (hcp2 _ _) ?_)
 go_ret
 exact ⟨_,rfl,HX.out⟩
end Go.Proofs.YtpdlohfdjiaegaaGreatDoor
