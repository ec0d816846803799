import Derived.Lib.Bytealg
import Derived.Lib.Walk
import Derived.Shelf.RegionOpenPlain
import Derived.RangeFuncNested
import Derived.RangeFuncBound
import Derived.RangeFuncCalls
import Derived.RangeFuncLeaves
import Derived.Shelf.Abstract
import Derived.Shelf.RegionOpen
import Derived.OwnWalkIn
import Derived.TacticsInMore
import Derived.LoopNIn
import Derived.LoopIn
import Derived.Deep.RegionWith
import Derived.Test.YtpdlohfdjiaegaaGreatDoorM05
set_option linter.unusedVariables false
set_option linter.unusedSimpArgs false
set_option maxHeartbeats 2000000
set_option maxRecDepth 100000
namespace Go.Proofs.YtpdlohfdjiaegaaGreatDoor.Lx
open Go.RowKit
variable {k:Nat}{T:ByteArray}
theorem yL {s:ByteArray}{i:Nat}(h:by8 s i / 64=2):gd s i=false:=by
 have e:Utf8.decode s i=(65533,1):=by
  rw [bw];unfold D;have n1:(by8 s i / 32 == 6)=false:=beq_eq_false_iff_ne.2 (by omega);have n2:(by8 s i / 16 == 14)=false:=beq_eq_false_iff_ne.2 (by omega);have n3:(by8 s i / 8 == 30)=false:=beq_eq_false_iff_ne.2 (by omega);rw [if_neg (by omega),n1,n2,n3];rfl
 unfold gd dp dw;rw [e];rfl
theorem jJ:lt' (61:Nat)=false/\lt' (46:Nat)=false/\lt' (47:Nat)=false:=by decide
structure Fst (k:Nat) (T:ByteArray):Prop where
 nc:¬by8 T 0 / 64=2
 f1:k=1->by8 T 0≠61/\by8 T 0≠46/\by8 T 0≠47
 f3:k=3->bN (by8 T 0)=true
 f4:k=4->by8 T 0=34
 f5:k=5->by8 T 0=39
 f6:k=6->T∈aL
 f7:k=7->by8 T 0=47
 f8:k=8->by8 T 0=123
 ks:k=1\/k=3\/k=4\/k=5\/k=6\/k=7\/k=8
theorem mJ (h:Tx k T):Fst k T:=by
 have hp:=h.pos;have e8:by8 (T++lfB) 0=by8 T 0:=cF T lfB 0 hp;have hb:=h.bg
 have hks:k=1\/k=3\/k=4\/k=5\/k=6\/k=7\/k=8:=by
  have:=wO (T++lfB) 0;rw [hb] at this;have:=h.k0;omega
 have h1:k=1->(gd (T++lfB) 0 && lt' (dp (T++lfB) 0))=true:=by
  intro hk;rw [hk] at hb;unfold ag at hb
  split at hb
  ·assumption
  ·repeat' (split at hb)
   all_goals exact absurd hb (by decide)
 have hasc:k≠1->by8 T 0<128:=fun hk=>by rw [<-e8];exact (mu hb h.k0 hk).1
 have h6:k=6->T∈aL:=by
  intro hk;have he:=h.en;rw [hk] at he
  have hz:(sg (T++lfB) 0).size=T.size:=by
   have:0+(sg (T++lfB) 0).size=T.size:=congrArg Prod.fst he;omega
  obtain ⟨_,x2,x3⟩:=fU (T++lfB) 0 (by omega);rw [hz,Nat.zero_add,gH] at x2;rw [<-x2] at x3;exact x3
 have hu:∀j,k=j->j≠1->ag (T++lfB) 0=j/\¬(gd (T++lfB) 0 && lt' (dp (T++lfB) 0))=true:=fun j hk hj=>⟨by rw [hb,hk],by rw [(mu hb h.k0 (by omega)).2];decide⟩
 refine ⟨?_,?_,?_,?_,?_,h6,?_,?_,hks⟩
 ·by_cases hk:k=1
  ·intro e;rw [<-e8] at e;have:=h1 hk;rw [yL e] at this;cases this
  ·have:=hasc hk;omega
 ·intro hk;have:=h1 hk;rw [Bool.and_eq_true] at this
  have key:∀c,c<128->lt' (c:Nat)=false->by8 T 0≠c:=by
   intro c hc hl e;rw [(aM (T++lfB) 0 (by rw [e8,e];exact hc)).2.1,e8,e,hl] at this;cases this.2
  exact ⟨key 61 (by decide) jJ.1,key 46 (by decide) jJ.2.1,key 47 (by decide) jJ.2.2⟩
 ·intro hk;obtain ⟨x,y⟩:=hu 3 hk (by decide);unfold ag at x;rw [if_neg y] at x
  split at x
  ·rename_i hd;rw [<-e8];exact hd
  ·repeat' (split at x)
   all_goals exact absurd x (by decide)
 ·intro hk;obtain ⟨x,y⟩:=hu 4 hk (by decide);unfold ag at x;rw [if_neg y] at x
  split at x
  ·exact absurd x (by decide)
  ·split at x
   ·rename_i hd;rw [<-e8];exact hd
   ·repeat' (split at x)
    all_goals exact absurd x (by decide)
 ·intro hk;obtain ⟨x,y⟩:=hu 5 hk (by decide);unfold ag at x;rw [if_neg y] at x
  split at x
  ·exact absurd x (by decide)
  ·split at x
   ·exact absurd x (by decide)
   ·split at x
    ·rename_i hd;rw [<-e8];exact hd
    ·repeat' (split at x)
     all_goals exact absurd x (by decide)
 ·intro hk;obtain ⟨x,y⟩:=hu 7 hk (by decide);unfold ag at x;rw [if_neg y] at x
  split at x
  ·exact absurd x (by decide)
  ·split at x
   ·exact absurd x (by decide)
   ·split at x
    ·exact absurd x (by decide)
    ·split at x
     ·rename_i hd;rw [<-e8];exact hd.1
     ·repeat' (split at x)
      all_goals exact absurd x (by decide)
 ·intro hk;obtain ⟨x,y⟩:=hu 8 hk (by decide);unfold ag at x;rw [if_neg y] at x
  split at x
  ·exact absurd x (by decide)
  ·split at x
   ·exact absurd x (by decide)
   ·split at x
    ·exact absurd x (by decide)
    ·split at x
     ·exact absurd x (by decide)
     ·split at x
      ·rename_i hd;rw [<-e8];exact hd
      ·repeat' (split at x)
       all_goals exact absurd x (by decide)
structure tT (k:Nat) (T:ByteArray) (c:Nat):Prop where
 nc:¬c / 64=2
 f1:k=1->c<128/\pr' (c:Nat)=false
 f3:k=3->bN c=false
 f6:k=6->T.size=1->(∀x∈aL,x.size=2->by8 x 0=by8 T 0->by8 x 1≠c)/\¬(by8 T 0=47/\c=47)
 f7:k=7->c=10
theorem gG {k:Nat}{T R:ByteArray}{c:Nat}(h:tT k T c) (hR:0<R.size) (hc:by8 R 0=c):Fol k T R:=by
 refine ⟨?_,fun hk _=>by rw [hc];exact h.f1 hk,fun hk _=>by rw [hc];exact h.f3 hk,fun hk hs _=>by rw [hc];exact h.f6 hk hs,fun hk _=>by rw [hc];exact h.f7 hk⟩;unfold ob;rw [if_pos hR,hc];show (c / 64 == 2)=false;exact beq_eq_false_iff_ne.2 h.nc
theorem ff:∀x∈aL,x.size=2->(by8 x 1=61\/by8 x 1=46)/\(by8 x 0=58\/by8 x 0=46\/by8 x 0=60\/by8 x 0=62):=by decide
theorem nW (k:Nat) (T:ByteArray):tT k T 10:=
 ⟨by decide,fun _=>⟨by decide,eL.1⟩,fun _=>rfl,fun _ _=>⟨fun x hx h2 _ h3=>by have:=(ff x hx h2).1;omega,fun h=>absurd h.2 (by decide)⟩,fun _=>rfl⟩
theorem pB (T:ByteArray) (h:k≠7):tT k T 32:=
 ⟨by decide,fun _=>⟨by decide,eL.2.1⟩,fun _=>rfl,fun _ _=>⟨fun x hx h2 _ h3=>by have:=(ff x hx h2).1;omega,fun h=>absurd h.2 (by decide)⟩,fun h7=>absurd h7 h⟩
theorem rY:∀x∈aL,by8 x 0<128/\pr' (by8 x 0:Nat)=false/\bN (by8 x 0)=false:=by decide
theorem uX:pr' (34:Nat)=false/\pr' (39:Nat)=false:=by decide
theorem v6 {k':Nat}{T':ByteArray}(h7:k≠7) (hF:Fst k' T') (hn:k'≠7/\k'≠8) (hw:¬((k=1\/k=3)/\(k'=1\/k'=3)))
  (hd:k=6->T.size=1->(by8 T 0=60\/by8 T 0=62\/by8 T 0=58\/by8 T 0=47\/by8 T 0=46)->k'=6->by8 T' 0≠61/\by8 T' 0≠46/\by8 T' 0≠47):tT k T (by8 T' 0):=by
 have hk':¬(k'=1\/k'=3)->by8 T' 0<128/\pr' (by8 T' 0:Nat)=false/\bN (by8 T' 0)=false:=by
  intro h
  rcases hF.ks with e|e|e|e|e|e|e
  ·exact absurd (.inl e) h
  ·exact absurd (.inr e) h
  ·rw [hF.f4 e];exact ⟨by decide,uX.1,rfl⟩
  ·rw [hF.f5 e];exact ⟨by decide,uX.2,rfl⟩
  ·exact rY T' (hF.f6 e)
  ·exact absurd e hn.1
  ·exact absurd e hn.2
 refine ⟨hF.nc,fun e=>?_,fun e=>?_,fun e hs=>?_,fun e=>absurd e h7⟩
 ·obtain ⟨a,b,_⟩:=hk' (fun h=>hw ⟨.inl e,h⟩);exact ⟨a,b⟩
 ·exact (hk' (fun h=>hw ⟨.inr e,h⟩)).2.2
 ·have key:(by8 T 0=60\/by8 T 0=62\/by8 T 0=58\/by8 T 0=47\/by8 T 0=46)->by8 T' 0≠61/\by8 T' 0≠46/\by8 T' 0≠47:=by
   intro hst
   rcases hF.ks with x|x|x|x|x|x|x
   ·exact hF.f1 x
   ·have:=hF.f3 x;unfold bN at this;simp only [Bool.and_eq_true,decide_eq_true_eq] at this;omega
   ·rw [hF.f4 x];decide
   ·rw [hF.f5 x];decide
   ·exact hd e hs hst x
   ·exact absurd x hn.1
   ·exact absurd x hn.2
  refine ⟨fun x hx h2 h0 h1=>?_,fun ⟨h0,h1⟩=>?_⟩
  ·obtain ⟨a,b⟩:=ff x hx h2;obtain ⟨c1,c2,_⟩:=key (by omega);omega
  ·exact (key (by omega)).2.2 h1
theorem ixb:∀l:List UInt8,(Lib.indexByte l 10=-1/\∀k:Nat,k<l.length->l[k]?≠some (10:UInt8))\/∃j:Nat,Lib.indexByte l 10=(j:Int)/\j<l.length/\l[j]?=some (10:UInt8)/\∀k,k<j->l[k]?≠some (10:UInt8)
 |[]=>.inl ⟨rfl,fun k h=>by simp at h⟩
 |b :: l=>by
  unfold Lib.indexByte
  by_cases hb:b=10
  ·exact .inr ⟨0,by simp [hb],by simp,by simp [hb],fun k h=>by omega⟩
  ·have hb':(b == (10:UInt8))=false:=by simpa using hb
   rw [hb']
   rcases ixb l with ⟨h1,h2⟩|⟨j,h1,h2,h3,h4⟩
   ·left
    refine ⟨by simp [h1],fun k hk=>?_⟩;cases k with
    |zero=>simpa using hb
    |succ k=>simp only [List.getElem?_cons_succ];exact h2 k (by simpa using hk)
   ·right
    refine ⟨j+1,?_,by simp;omega,by simpa using h3,fun k hk=>?_⟩
    ·have:¬((j:Int)=-1):=by omega
     simp [h1,this]
    ·cases k with
     |zero=>simpa using hb
     |succ k=>simp only [List.getElem?_cons_succ];exact h4 k (by omega)
theorem j7 (s:ByteArray) (k:Nat) (h:k<s.size):by8 s k=10↔s.data.toList[k]?=some (10:UInt8):=by
 have hz:k<s.data.size:=h
 have e:s.get! k=s.data.toList[k]?.getD default:=by
  show s.data[k]! = _
  rw [Array.getElem!_eq_getD,Array.getD_eq_getD_getElem?,Array.getElem?_toList]
 unfold by8;rw [e,Array.getElem?_toList,Array.getElem?_eq_getElem hz];simp;constructor
 ·intro h;exact UInt8.toNat_inj.1 h
 ·intro h;rw [h];rfl
def nlI (r:ByteArray):Int:=if nl r 0<r.size then (nl r 0:Int) else -1
theorem nM (r:ByteArray):Lib.indexByte r.data.toList 10=nlI r:=by
 have hz:r.data.toList.length=r.size:=by simp
 rcases ixb r.data.toList with ⟨h1,h2⟩|⟨j,h1,h2,h3,h4⟩
 ·have e:nl r 0=r.size:=ny r 0 r.size (Nat.zero_le _) (Nat.le_refl _) (fun k _ hk=>fun hc=>h2 k (by omega) ((j7 r k hk).1 hc)) (.inl rfl);rw [h1];unfold nlI;rw [if_neg (by omega)]
 ·have e:nl r 0=j:=ny r 0 j (Nat.zero_le _) (by omega) (fun k _ hk=>fun hc=>h4 k hk ((j7 r k (by omega)).1 hc)) (.inr ((j7 r j (by omega)).2 h3));rw [h1];unfold nlI;rw [if_pos (by omega),e]
theorem fX (s:ByteArray) (w:World) :
  Da 234 #[.string s,.int .u8 10] w fun e w'=>e=.returned (.int .i64 (nlI s))/\w'=w:=by
 go_enter Tryz.func234,Tryz.ntmps234
 go_wp2
 rw [run_callFunc_extern Tryz.func248 (by kernel_rfl) (by kernel_rfl) (by kernel_rfl) (e:=Extern.BytealgIndexByte.indexByte) (by kernel_rfl),Lib.run_indexByteString];simp only [Result.andThen];rw [Oper.upon_value]
 go_wp2
 go_ret
 exact ⟨by rw [<-nM];rfl,rfl⟩
theorem fI (s:ByteArray) (w:World) :
  Da 246 #[.string s,.string ⟨#[10]⟩] w fun e w'=>e=.returned (.int .i64 (nlI s))/\w'=w:=by
 go_enter Tryz.func246,Tryz.ntmps246
 go_wp2_with (go_at_call 234;refine (fX _ _).mono ?_;rintro e w' ⟨rfl,rfl⟩)
 ·have h:([(10:UInt8)] == s.toList)=true:=by assumption
  have e:s.data.toList=[10]:=by rw [<-Lib.toList_data];exact (beq_iff_eq.1 h).symm
  have e2:nlI s=0:=by rw [<-nM,e];rfl
  go_ret
  exact ⟨by rw [e2];rfl,rfl⟩
 ·go_ret
  exact ⟨rfl,rfl⟩
def mf (r:ByteArray):ByteArray:=r.extract 0 (nl r 0)
def kh (r:ByteArray):ByteArray:=if nl r 0<r.size then r.extract (nl r 0+1) r.size else ⟨#[]⟩
def ki (r:ByteArray):Bool:=decide (nl r 0<r.size)
theorem rV (s:ByteArray) (w:World) (hs:s.size<=maxLen) :
  Da 237 #[.string s,.string ⟨#[10]⟩] w fun e w'=>e=.returned (.tuple #[.string (mf s),.string (kh s),.bool (ki s)])/\Below w.heap.size w w':=by
 unfold maxLen at hs;have hn:=fj s 0 (Nat.zero_le _)
 by_cases h:nl s 0<s.size
 ·have Hi:Hid (nlI s=(nl s 0:Int)):=by show _=_;unfold nlI;rw [if_pos h]
  have HL:Hid (mf s=s.extract 0 (nl s 0)):=rfl;have HR:Hid (kh s=s.extract (nl s 0+1) s.size):=by show _=_;unfold kh;rw [if_pos h]
  have HB:Hid (ki s=true):=by show _=_;unfold ki;simp [h]
  obtain ⟨n,hn'⟩:∃n,nl s 0=n:=⟨_,rfl⟩;rw [hn'] at Hi HL HR hn h;clear hn'
  go_enter Tryz.func237,Tryz.ntmps237
  go_wp2_with (go_at_call 246;refine (fI _ _).mono ?_;rintro e w' ⟨rfl,rfl⟩;rw [Hi.out])
  go_region
  go_wp2
  go_ret3
  exact ⟨by rw [HL.out,HR.out,HB.out];rfl,(Below.refl _ _).drew⟩
 ·have Hi:Hid (nlI s=-1):=by show _=_;unfold nlI;rw [if_neg h]
  have HL:Hid (mf s=s):=by show _=_;unfold mf;rw [show nl s 0=s.size by omega,iF]
  have HR:Hid (kh s=⟨#[]⟩):=by show _=_;unfold kh;rw [if_neg h]
  have HB:Hid (ki s=false):=by show _=_;unfold ki;simp [h]
  clear hn h
  go_enter Tryz.func237,Tryz.ntmps237
  go_wp2_with (go_at_call 246;refine (fI _ _).mono ?_;rintro e w' ⟨rfl,rfl⟩;rw [Hi.out])
  go_ret3
  exact ⟨by rw [HL.out,HR.out,HB.out];rfl,Below.refl _ _⟩
theorem yZ (s:ByteArray) (w:World) (hs:s.size<=maxLen) :
  Da 216 #[.string s,.string ⟨#[10]⟩] w fun e w'=>e=.returned (.tuple #[.string (mf s),.string (kh s),.bool (ki s)])/\Below w.heap.size w w':=by
 go_enter Tryz.func216,Tryz.ntmps216
 go_wp2_with (go_at_call 237;refine (rV _ _ hs).mono ?_;rintro e w' ⟨rfl,hb⟩)
 go_ret3
 exact ⟨rfl,hb⟩
theorem sN (s:ByteArray) (w:World) :
  Da 185 #[.string s] w fun e w'=>e=.returned (.func (.func 215) #[] #[.pointer (some ⟨w.heap.size,0,none⟩)])/\w'=w.alloc (.cells #[.string s] 9):=by
 have hmf:=mkfn
 go_enter Tryz.func185,Tryz.ntmps185
 go_wp2
 go_ret
 exact ⟨rfl,rfl⟩
end Go.Proofs.YtpdlohfdjiaegaaGreatDoor.Lx
namespace Go.Proofs.YtpdlohfdjiaegaaGreatDoor.Lx
open Go.RowKit Go.Shelf
variable {W W' w w':World}{B:Nat}{a l c:Int}{row:Option Nat}
attribute [local go_sem] Oper.semAt_some
def LN (s:ByteArray):Nat:=cn s s.size+1
def iJ (s:ByteArray) (k:Nat):List (Int × ByteArray):=(List.range k).map (fun i=>(((i+1:Nat):Int),ln s i))
theorem gY (s:ByteArray) (k:Nat):iJ s (k+1)=iJ s k++[(((k+1:Nat):Int),ln s k)]:=by
 unfold iJ;rw [List.range_succ,List.map_append];rfl
theorem tW (s:ByteArray) (k:Nat):(iJ s k).length=k:=by unfold iJ;simp
theorem yo (s:ByteArray) (a:Nat) (ha:a<=s.size):nl (s.extract a s.size) 0=nl s a-a:=by
 have z:=aj s a s.size (Nat.le_refl _);obtain ⟨h1,h2,h3,h4⟩:=fj s a ha;refine ny _ 0 _ (Nat.zero_le _) (by omega) (fun k _ hk=>?_) ?_
 ·rw [aF s a s.size k (by omega)];exact h3 _ (by omega) (by omega)
 ·by_cases e:nl s a=s.size
  ·left;omega
  ·right;rw [aF s a s.size _ (by omega),show a+(nl s a-a)=nl s a by omega];exact h4 (by omega)
theorem Bf (s:ByteArray) (k:Nat) (h:k<LN s):mf (s.extract (bg s k) s.size)=ln s k/\ki (s.extract (bg s k) s.size)=decide (k+1<LN s) /\
  (k+1<LN s->kh (s.extract (bg s k) s.size)=s.extract (bg s (k+1)) s.size):=by
 unfold LN at h ⊢;have hb:=j9 s k (by omega);obtain ⟨h1,h2,h3⟩:=zK s k (by omega);have z:=aj s (bg s k) s.size (Nat.le_refl _);have e:=yo s (bg s k) hb.1;refine ⟨?_,?_,fun hk=>?_⟩
 ·unfold mf;rw [e,d9 s (bg s k) s.size 0 _ (Nat.le_refl _) (by omega) (Nat.zero_le _),Nat.add_zero,show bg s k+(nl s (bg s k)-bg s k)=nl s (bg s k) by omega];rfl
 ·unfold ki;rw [e,z]
  by_cases hc:nl s (bg s k)<s.size
  ·have:=h3.1 hc;rw [decide_eq_true (by omega),decide_eq_true (by omega)]
  ·have:¬k<cn s s.size:=fun hh=>hc (h3.2 hh)
   rw [decide_eq_false (by omega),decide_eq_false (by omega)]
 ·have hc:=h3.2 (by omega);unfold kh;rw [e,z,if_pos (by omega),d9 s (bg s k) s.size _ _ (Nat.le_refl _) (by omega) (by omega)];show s.extract _ _=s.extract (nl s (bg s k)+1) _
  congr 1 <;> omega
abbrev Ln:={ x:Int × ByteArray // x.2.size<=maxLen }
abbrev zN (x:Ln):Array Value:=#[.int .i64 x.1.1,.string x.1.2]
theorem fw (h:Below w.heap.size w w'):w.grownBy w' none:=⟨h.os,h.tape,h.output,h.size,fun k hk _=>h.block k hk⟩
theorem fs (h:Below w.heap.size w w'):KeepsOthers w w':=KeepsOthers.of_grownBy (fw h) (fun _ _ e=>by cases e)
theorem nD (n:Nat) (hn:1<=n) (Bn:Nat) (s:ByteArray) (hs:s.size<=2147483647) (w:World) (hB:Bn<w.heap.size) (hc:w.cell? ⟨Bn,0,none⟩=some (.string s)) :
  SeqStopsK Fence.wide n Tryz.prog 215 #[.pointer (some ⟨Bn,0,none⟩)] zN (fun _ _=>True) (fun xs=>xs.map (·.1)=iJ s (LN s)) (fun pre=>∃k,k<=LN s/\pre.map (·.1)=iJ s k) (LN s) w:=fun l J Jx W hW hJ hJx hY h0=>by
 have hL:LN s<=2147483648:=by have:=zS s s.size;unfold LN;omega
 have hcW:W.cell? ⟨Bn,0,none⟩=some (.string s):=(hW.cell (p:=⟨Bn,0,none⟩) hB).trans hc;refine callsIn_of_wp Tryz.func215 rfl trivial ?_ rfl;simp only [Tryz.ntmps215,List.size_toArray,List.length_cons,List.length_nil,Nat.reduceAdd,Nat.reduceSub,Array.replicate_succ,Array.replicate_zero,List.push_toArray,List.append_toArray,List.nil_append,List.cons_append]
 gi_wp2
 gi_loopw [3,4,5] (fun r b m wr=>∃(k:Nat) (pre:List Ln) (q:ByteArray) (z:Int),r=.string q/\b=.bool (decide (k<LN s))/\m=.int .i64 z/\Hid (z=((k+1:Nat):Int))/\Hid (k<=LN s)/\Hid (pre.map (·.1)=iJ s k)/\Hid (k<LN s->q=s.extract (bg s k) s.size)/\J pre wr)
  (fun _ _ m _=>LN s+1-(RowKit.intOf m).toNat)
 case atStart=>
  refine ⟨0,[],s,1,rfl,by rw [decide_eq_true (by unfold LN;omega)],rfl,rfl,Nat.zero_le _,rfl,?_,h0⟩;intro _;rw [show bg s 0=0 from rfl,iF]
 case round=>
  obtain ⟨k,pre,q,z,rfl,rfl,rfl,HZ,HK,HP,HQ,hJs⟩:=hrel
  by_cases hk:k<LN s
  ·obtain ⟨e1,e2,e3⟩:=Bf s k hk;have hq:=HQ.out hk;have hqs:q.size<=maxLen:=by rw [hq,aj _ _ _ (Nat.le_refl _)];unfold maxLen;omega
   have hls:(ln s k).size<=maxLen:=by have:=yz s k (by unfold LN at hk;omega);unfold maxLen;omega
   rw [<-hq] at e1 e2 e3;obtain ⟨b,hb⟩:∃b,decide (k<LN s)=b:=⟨_,rfl⟩;have hbt:b=true:=by rw [<-hb];exact decide_eq_true hk
   rw [hb,hbt];have HE1:Hid (mf q=ln s k):=e1;have HE2:Hid (ki q=decide (k+1<LN s)):=e2;have HE3:Hid (k+1<LN s->kh q=s.extract (bg s (k+1)) s.size):=e3;have HKL:Hid (k<LN s):=hk;have hz1:0<=z:=by have:=HZ.out;omega
   have hz2:z<=2147483648:=by have:=HZ.out;omega
   have HLEN:Hid (pre.length<LN s):=by
    show _<_
    have:=congrArg List.length HP.out;rw [tW,List.length_map] at this;omega
   clear e1 e2 e3 hq hb hbt HQ hk;obtain ⟨L,hLL⟩:∃L,ln s k=L:=⟨_,rfl⟩;obtain ⟨CL,hCL⟩:∃L,mf q=L:=⟨_,rfl⟩;obtain ⟨CR,hCR⟩:∃L,kh q=L:=⟨_,rfl⟩;obtain ⟨CB,hCB⟩:∃L,ki q=L:=⟨_,rfl⟩
   have hcut:∀w,Da 216 #[.string q,.string ⟨#[10]⟩] w fun e w'=>e=.returned (.tuple #[.string CL,.string CR,.bool CB])/\Below w.heap.size w w':=by
    intro w;rw [<-hCL,<-hCR,<-hCB];exact yZ q w hqs
   rw [hCL,hLL] at HE1;rw [hCB] at HE2;rw [hCR] at HE3;rw [hLL] at hls;obtain rfl:=HE1.out;have HLL:Hid (ln s k=CL):=hLL;clear hCL hCR hCB hLL
   gi_wp2
   refine ⟨trivial,?_⟩;refine (callsIn_wide.2 (hcut _)).mono ?_;rintro e w1 ⟨rfl,hb1⟩;have hJ1:=hJ pre _ w1 none hJs (fw hb1) (fun r e=>by cases e);obtain ⟨fn,tmps,assign,body,hy,hR⟩:=hY pre ⟨(z,CL),hls⟩ w1 hJ1 HLEN.out
   dsimp only [zN] at hy
   gi_wp2
   refine hR.mono ?_;rintro e W3 (⟨rfl,hJ3,_⟩|⟨rfl,hJx3⟩)
   ·gi_wp2
    go_roundw
    case rel=>exact ⟨k+1,pre++[⟨(z,CL),hls⟩],CR,z+1,rfl,by rw [HE2.out],by go_num,by show _=_;rw [HZ.out];omega,HKL.out,by show _=_;rw [List.map_append,HP.out,gY,HLL.out,HZ.out];rfl,HE3.out,hJ3⟩
    case measure=>simp [RowKit.intOf];have:=HZ.out;have:=HKL.out;omega
   ·gi_wp2
    refine bodyPost_ret (results_none rfl _ _ _) rfl ?_;exact ⟨⟨_,rfl⟩,.inr ⟨pre++[⟨(z,CL),hls⟩],⟨k+1,HKL.out,by rw [List.map_append,HP.out,gY,HLL.out,HZ.out];rfl⟩,hJx3⟩⟩
  ·have hbf:decide (k<LN s)=false:=decide_eq_false hk;rw [hbf];have HE:Hid (k=LN s):=by show _=_;have:=HK.out;omega
   clear hbf hk HQ
   gi_wp2
   go_end0
   exact ⟨⟨_,rfl⟩,.inl ⟨pre,by rw [HP.out,HE.out],hJs⟩⟩
attribute [local go_sem] Oper.semAt_some
attribute [local go_sem] Oper.semAt_some
def plV (a l c:Int):Value:=.agg #[.int .i64 a,.int .i64 l,.int .i64 c]
def bu (W:World) (B:Nat) (a l c:Int):Prop:=W.heap[B]?=some (.cells #[.int .i64 a,.int .i64 l,.int .i64 c] 35 (0,0))
theorem bu.lt (h:bu W B a l c):B<W.heap.size:=(Array.getElem?_eq_some_iff.1 h).1
theorem bu.cell0 (h:bu W B a l c):W.cell? ⟨B,0,none⟩=some (.int .i64 a):=by simp [World.cell?,show W.heap[B]?=_ from h]
theorem bu.cell1 (h:bu W B a l c):W.cell? ⟨B,1,none⟩=some (.int .i64 l):=by simp [World.cell?,show W.heap[B]?=_ from h]
theorem bu.cell2 (h:bu W B a l c):W.cell? ⟨B,2,none⟩=some (.int .i64 c):=by simp [World.cell?,show W.heap[B]?=_ from h]
theorem bu.frozen (h:bu W B a l c) (k:Nat):W.frozen? ⟨B,k,none⟩=false:=by simp [World.frozen?,show W.heap[B]?=_ from h]
theorem bu.new (W:World) (a l c:Int):bu (W.alloc (.cells #[.int .i64 a,.int .i64 l,.int .i64 c] 35)) W.heap.size a l c:=World.alloc_heap_new W _
theorem bu.kept (h:bu W B a l c) (hg:W.grownBy W' row) (hne:some B≠row):bu W' B a l c:=(hg.block B h.lt hne).trans h
theorem bu.alloc (h:bu W B a l c) (o:Obj):bu (W.alloc o) B a l c:=h.kept (World.grownBy_alloc W o none) (by simp)
theorem bu.below (h:bu W B a l c) (hb:Below W.heap.size W W'):bu W' B a l c:=(hb.block B h.lt).trans h
theorem bu.drew (h:bu W B a l c):bu W.drew B a l c:=h
theorem bu.set0 (h:bu W B a l c) (v:Int):bu (W.setCell ⟨B,0,none⟩ (.int .i64 v)) B v l c:=by
 obtain ⟨hlt,hk⟩:=Array.getElem?_eq_some_iff.1 h;show (W.heap.modify B _)[B]?=_;rw [Array.getElem?_eq_getElem (by rw [Array.size_modify];exact hlt),Array.getElem_modify_self,hk];rfl
theorem bu.set1 (h:bu W B a l c) (v:Int):bu (W.setCell ⟨B,1,none⟩ (.int .i64 v)) B a v c:=by
 obtain ⟨hlt,hk⟩:=Array.getElem?_eq_some_iff.1 h;show (W.heap.modify B _)[B]?=_;rw [Array.getElem?_eq_getElem (by rw [Array.size_modify];exact hlt),Array.getElem_modify_self,hk];rfl
theorem bu.set2 (h:bu W B a l c) (v:Int):bu (W.setCell ⟨B,2,none⟩ (.int .i64 v)) B a l v:=by
 obtain ⟨hlt,hk⟩:=Array.getElem?_eq_some_iff.1 h;show (W.heap.modify B _)[B]?=_;rw [Array.getElem?_eq_getElem (by rw [Array.size_modify];exact hlt),Array.getElem_modify_self,hk];rfl
theorem fJ (W:World) (p:Addr) (v:Value):W.grownBy (W.setCell p v) (some p.block):=
 ⟨rfl,rfl,rfl,(KeepsWalks.setCell W _ v).size,fun k _ hk=>Below.heap_setCell _ _ _ k (fun e=>hk (by rw [e]))⟩
theorem ir (h:bu W B a l c) (hg:W.grownBy W' row) (hr:∀r,row=some r->∃o:Obj,W.heap[r]?=some o/\o.isCells=false):bu W' B a l c:=
 h.kept hg (fun e=>by
  obtain ⟨o,ho,hc⟩:=hr B e.symm;rw [show W.heap[B]?=_ from h] at ho;cases ho;cases hc)
theorem wL {W:World}{B:Nat}{a l c:Int}(h:bu W B a l c) {D:Nat}{o o':Obj}(hK:W.heap[D]?=some o) (ho:o.isCells=false):bu (W.putObj D o') B a l c:=
 ir h (grownBy_putObj' W D o') (fun r e=>by cases e;exact ⟨o,hK,ho⟩)
theorem wy (s:ByteArray) (w:World) (hs:s.size<=maxLen) :
  Da 186 #[.string s] w fun e w'=>e=.returned (.int .i64 (P s).length)/\Below w.heap.size w w':=
 (tz s w hs).mono (fun e w' h=>⟨h.1,by obtain ⟨p,rfl⟩:=h.2;exact cr _ _ _⟩)
def fk (q:Int × Int) (x:Ln):Int × Int:=if 1<x.1.1 then (wrap64 (q.1+1),wrap64 (1+(P x.1.2).length)) else (q.1,wrap64 (q.2+(P x.1.2).length))
def fV (l c:Int) (xs:List Ln):Int × Int:=xs.foldl fk (l,c)
theorem jM (l c:Int) (xs:List Ln) (x:Ln):fV l c (xs++[x])=fk (fV l c xs) x:=by unfold fV;rw [List.foldl_append];rfl
theorem qR (s:ByteArray) (l c:Int):∀(k:Nat) (xs:List Ln),xs.map (·.1)=iJ s k->0<k->fV l c xs=(wrap64 (l+(k-1:Nat)),wrap64 ((if k=1 then c else 1)+(P (ln s (k-1))).length))\/(k=1/\fV l c xs=(l,wrap64 (c+(P (ln s 0)).length)))
 |0,_,_,h=>by omega
 |k+1,xs,hx,_=>by
  rw [gY] at hx
  obtain ⟨xs',y,rfl,h1,h2⟩:∃xs' y,xs=xs'++[y]/\xs'.map (·.1)=iJ s k/\y.1=(((k+1:Nat):Int),ln s k):=by
   rcases List.eq_nil_or_concat xs with rfl|⟨xs',y,rfl⟩
   ·simp at hx
   ·rw [List.concat_eq_append,List.map_append] at hx;have:=List.append_inj' hx (by simp);exact ⟨xs',y,by rw [List.concat_eq_append],this.1,by simpa using this.2⟩
  rw [jM];unfold fk;rw [h2]
  by_cases hk:k=0
  ·subst hk
   right
   obtain rfl:xs'=[]:=by simpa [iJ] using h1
   rw [if_neg (by simp)];exact ⟨rfl,rfl⟩
  ·left
   rw [if_pos (by show (1:Int)<((k+1:Nat):Int);omega),if_neg (by omega)];show (_,_)=(_,_)
   congr 1
   rcases qR s l c k xs' h1 (by omega) with e|⟨rfl,e⟩
   ·rw [e];show wrap64 (wrap64 (l+((k-1:Nat):Int))+1)=_;rw [jc];congr 1;omega
   ·rw [e];rfl
theorem xi (x:Int) (h:-9223372036854775808<=x/\x<=9223372036854775807):wrap64 x=x:=by unfold wrap64;omega
theorem AZ (s:ByteArray) (l c:Int) (hl:-9223372036854775808<=l/\l<=9223372036854775807) (xs:List Ln) (hx:xs.map (·.1)=iJ s (LN s)):fV l c xs=(ef l s,iv c s):=by
 have hln:=yA s;unfold ef iv
 rcases qR s l c (LN s) xs hx (by unfold LN;omega) with e|⟨h1,e⟩
 ·rw [e];unfold LN;rw [show cn s s.size+1-1=cn s s.size by omega,hln]
  by_cases hz:cn s s.size=0
  ·rw [if_pos (by omega),if_pos hz]
  ·rw [if_neg (by omega),if_neg hz]
 ·have hz:cn s s.size=0:=by unfold LN at h1;omega
  rw [hz] at hln;rw [e,hz,if_pos rfl,hln]
  congr 1
  rw [xi _ (by simp;exact hl)];simp
theorem zB (a0 l0 c0:Int) (s:ByteArray) (w:World) (hs:s.size<=2147483647) (hl0:-9223372036854775808<=l0/\l0<=9223372036854775807) :
  Da 143 #[.agg #[.int .i64 a0,.int .i64 l0,.int .i64 c0],.string s] w fun e w'=>e=.returned (plV (aAt a0 s) (ef l0 s) (iv c0 s))/\Below w.heap.size w w':=by
 refine (callsIn_wide (n:=9)).1 ?_;refine callsIn_of_wp_marks Tryz.func143 rfl trivial ?_ rfl;simp only [Tryz.ntmps143,List.size_toArray,List.length_cons,List.length_nil,Nat.reduceAdd,Nat.reduceSub,Array.replicate_succ,Array.replicate_zero,List.push_toArray,List.append_toArray,List.nil_append,List.cons_append]
 gi_wp2
 refine ⟨trivial,?_⟩;refine (callsIn_wide.2 (sN _ _)).mono ?_;rintro e w1 ⟨rfl,rfl⟩
 gi_wp2
 obtain ⟨a1,ha1⟩:∃a1,wrap64 (a0+(s.size:Int))=a1:=⟨_,rfl⟩;rw [ha1];have HA:Hid (aAt a0 s=a1):=ha1;clear ha1;obtain ⟨W0,hW0⟩:∃W0,(((w.alloc (Obj.cells #[Value.int IntKind.i64 a1,Value.int IntKind.i64 l0,Value.int IntKind.i64 c0] 35)).alloc (Obj.cells #[Value.int IntKind.i64 0,Value.int IntKind.i64 0,Value.int IntKind.i64 0] 35)).alloc (Obj.cells #[Value.string s] 9))=W0:=⟨_,rfl⟩;have hsz:W0.heap.size=w.heap.size+1+1+1:=by rw [<-hW0];simp
 have b0:bu W0 w.heap.size a1 l0 c0:=by rw [<-hW0];exact ((bu.new w _ _ _).alloc _).alloc _
 have b1:bu W0 (w.heap.size+1) 0 0 0:=by rw [<-hW0];have:=(bu.new (w.alloc (Obj.cells #[Value.int IntKind.i64 a1,Value.int IntKind.i64 l0,Value.int IntKind.i64 c0] 35)) 0 0 0).alloc (Obj.cells #[Value.string s] 9);rw [World.size_alloc] at this;exact this
 have b2:Boxed W0 (w.heap.size+1+1) 9 (.string s):=by rw [<-hW0];have:=Boxed.new ((w.alloc (Obj.cells #[Value.int IntKind.i64 a1,Value.int IntKind.i64 l0,Value.int IntKind.i64 c0] 35)).alloc (Obj.cells #[Value.int IntKind.i64 0,Value.int IntKind.i64 0,Value.int IntKind.i64 0] 35)) 9 (.string s);rw [World.size_alloc,World.size_alloc] at this;exact this
 have hB0:Below w.heap.size w W0:=by rw [<-hW0];exact (((Below.refl _ w).alloc (Nat.le_refl _) _).alloc (by simp) _).alloc (by simp;omega) _
 rw [hW0];clear hW0;have hmx:Tryz.prog.follows .mixedOrders=true:=by kernel_rfl
 refine wpIn_rangeFunc_ownF rfl (by omega) (gf:=215) (lb:=#[.pointer (some ⟨w.heap.size+1+1,0,none⟩)]) rfl trivial (enters_of Tryz.func215 (by kernel_rfl) rfl)
  (nD 8 (by omega) (w.heap.size+1+1) s hs W0 (by omega) b2.cell) (fun _ _=>trivial) (fun _ _ _ _ _ _ _ _=>trivial) (Below.refl _ _) (fun _=>rfl)
  (fun pre W=>(bu W w.heap.size a1 (fV l0 c0 pre).1 (fV l0 c0 pre).2/\bu W (w.heap.size+1) 0 0 0)/\Below w.heap.size w W)
  (fun _ _ _=>False)
  (OwnFrom.and (Own.from (fun s A B row hs hg hr=>⟨ir hs.1 hg hr,ir hs.2 hg hr⟩) _) (ownFrom_below (Nat.le_refl _) (by omega)))
  (fun _ _ _ _ _ hs _ _=>hs)
  ⟨⟨b0,b1⟩,hB0⟩
  (fun x=>{ tmps:=#[.agg #[.int .i64 a0,.int .i64 l0,.int .i64 c0],.string s,.pointer (some ⟨w.heap.size,0,none⟩),undef,.pointer (some ⟨w.heap.size+1,0,none⟩),.int .i64 x.1.1,.string x.1.2,.pointer (some ⟨w.heap.size,0,none⟩),.int .i64 a0,.string s,.int .i64 s.size,.int .i64 a1,.pointer (some ⟨w.heap.size,0,none⟩),.string s,.func (.func 215) #[] #[.pointer (some ⟨w.heap.size+1+1,0,none⟩)],.int .i64 x.1.1,.string x.1.2,undef,undef,undef,undef,undef,undef,undef,undef,undef,undef,undef,undef,undef,undef],defers:=[] }) ?assign ?body ?done ?stop
 case assign=>
  intro l x W K hK
  gi_wp2
  exact hK
 case body=>
  rintro l pre x W ⟨⟨k0,k1⟩,hB⟩ _;obtain ⟨q,hq⟩:∃q,fV l0 c0 pre=q:=⟨_,rfl⟩;have HQ:Hid (fV l0 c0 (pre++[x])=fk q x):=by show _=_;rw [jM,hq]
  rw [hq] at k0;clear hq;have g1:=k0.cell1;have g2:=k0.cell2;have f1:=k0.frozen 1;have f2:=k0.frozen 2;have hcount:∀w,Da 186 #[.string x.1.2] w fun e w'=>e=.returned (.int .i64 (P x.1.2).length)/\Below w.heap.size w w':=fun w=>wy _ w x.2
  by_cases hx:1<x.1.1
  ·have HX:Hid (fk q x=(wrap64 (q.1+1),wrap64 (1+(P x.1.2).length))):=by show _=_;unfold fk;rw [if_pos hx]
   gi_wp2
   have r0:=(k0.set1 (wrap64 (q.1+1))).set2 1;have r1:=(k1.kept (fJ W ⟨w.heap.size,1,none⟩ (.int .i64 (wrap64 (q.1+1)))) (by simp)).kept (fJ _ ⟨w.heap.size,2,none⟩ (.int .i64 1)) (by simp);have hkW:=(KeepsOthers.setCell W ⟨w.heap.size,1,none⟩ (.int .i64 (wrap64 (q.1+1)))).trans (KeepsOthers.setCell _ ⟨w.heap.size,2,none⟩ (.int .i64 1));have hB1:=(hB.setCell (p:=⟨w.heap.size,1,none⟩) (Nat.le_refl _) (.int .i64 (wrap64 (q.1+1)))).setCell (p:=⟨w.heap.size,2,none⟩) (Nat.le_refl _) (.int .i64 1);obtain ⟨Wm,hWm⟩:∃Wm,(W.setCell ⟨w.heap.size,1,none⟩ (.int .i64 (wrap64 (q.1+1)))).setCell ⟨w.heap.size,2,none⟩ (.int .i64 1)=Wm:=⟨_,rfl⟩;rw [hWm] at r0 r1 hkW hB1 ⊢;clear hWm g1 g2 f1 f2;have g2:=r0.cell2;have f2:=r0.frozen 2
   gi_region_with_o (refine ⟨trivial,?_⟩;gi_at_call 186;refine (CallsIn.inRound l (callsIn_wide.2 (hcount _))).mono ?_;rintro e w1 ⟨rfl,hb1⟩;have g3:=(r0.drew.below hb1).cell2;have f3:=(r0.drew.below hb1).frozen 2)
   all_goals gi_wp2
   all_goals (try go_bits)
   all_goals exact ⟨((hkW.trans (KeepsOthers.drew _)).trans (fs hb1)).trans (KeepsOthers.setCell _ _ _),trivial,⟨by rw [HQ.out,HX.out];exact (r0.drew.below hb1).set2 _,(bu.drew r1 |>.below hb1).kept (fJ _ _ _) (by simp)⟩,(hB1.drew.trans (hb1.mono hB1.size)).setCell (p:=⟨w.heap.size,2,none⟩) (Nat.le_refl _) _⟩
  ·have HX:Hid (fk q x=(q.1,wrap64 (q.2+(P x.1.2).length))):=by show _=_;unfold fk;rw [if_neg hx]
   gi_wp2
   gi_region_with_o (refine ⟨trivial,?_⟩;gi_at_call 186;refine (CallsIn.inRound l (callsIn_wide.2 (hcount _))).mono ?_;rintro e w1 ⟨rfl,hb1⟩;have g3:=(k0.drew.below hb1).cell2;have f3:=(k0.drew.below hb1).frozen 2)
   all_goals gi_wp2
   all_goals (try go_bits)
   all_goals exact ⟨((KeepsOthers.drew _).trans (fs hb1)).trans (KeepsOthers.setCell _ _ _),trivial,⟨by rw [HQ.out,HX.out];exact (k0.drew.below hb1).set2 _,(k1.drew.below hb1).kept (fJ _ _ _) (by simp)⟩,(hB.drew.trans (hb1.mono hB.size)).setCell (p:=⟨w.heap.size,2,none⟩) (Nat.le_refl _) _⟩
 case done=>
  rintro D ys W hD hS ⟨⟨k0,k1⟩,hB⟩ hK;rw [AZ s l0 c0 hl0 ys hS] at k0;obtain ⟨L,hL⟩:∃L,ef l0 s=L:=⟨_,rfl⟩;obtain ⟨C,hC⟩:∃C,iv c0 s=C:=⟨_,rfl⟩;rw [hL,hC] at k0;have HL:Hid (ef l0 s=L):=hL;have HC:Hid (iv c0 s=C):=hC;clear hL hC;have g0:=k0.cell0;have g1:=k0.cell1;have g2:=k0.cell2;have e0:=k1.cell0;have e1:=k1.cell1;have e2:=k1.cell2;have f0:=k1.frozen 0;have f1:=k1.frozen 1;have f2:=k1.frozen 2
  gi_wp2
  have hK':=(((KeepsOthers.setCell W ⟨w.heap.size+1,0,none⟩ (.int .i64 a1)).trans (KeepsOthers.setCell _ ⟨w.heap.size+1,1,none⟩ (.int .i64 L))).trans (KeepsOthers.setCell _ ⟨w.heap.size+1,2,none⟩ (.int .i64 C))).same D _ hK rfl;have j1:=((k1.set0 a1).set1 L).set2 C;have hB3:=((hB.setCell (p:=⟨w.heap.size+1,0,none⟩) (by simp) (.int .i64 a1)).setCell (p:=⟨w.heap.size+1,1,none⟩) (by simp) (.int .i64 L)).setCell (p:=⟨w.heap.size+1,2,none⟩) (by simp) (.int .i64 C);have m:=wL (o':=.deferred none) j1 hK' rfl;have m0:=m.cell0;have m1:=m.cell1;have m2:=m.cell2;refine ⟨by simp,.inl ⟨_,_,rfl,run_takeDeferred hK',?_⟩⟩;refine ⟨.agg #[.int .i64 a1,.int .i64 L,.int .i64 C],?_,by rw [HA.out,HL.out,HC.out];rfl,hB3.trans (belowK_b (w:=w) (Nat.le_refl _) _ D _ _ (by omega) hK' rfl rfl)⟩;simp [results,Tryz.f143,go_sem,m0,m1,m2]
 case stop=>
  rintro D c pre W _ _ h _;exact h.elim
theorem rS (w:World) :
  Da 49 #[] w fun e w'=>e=.returned (.agg #[.int .i64 0,.int .i64 1,.int .i64 1])/\Below w.heap.size w w':=by
 go_enter Tryz.func49,Tryz.ntmps49
 go_wp2
 have hb0:=bu.new w 0 1 1;have g0:=hb0.cell0;have g1:=hb0.cell1;have g2:=hb0.cell2;refine bodyPost_ret (v:=.agg #[.int .i64 0,.int .i64 1,.int .i64 1]) (by simp [results,Tryz.f49,go_sem,g0,g1,g2]) rfl ?_;exact ⟨rfl,(Below.refl _ _).alloc (Nat.le_refl _) _⟩
theorem zz (a0 l0 c0:Int) (s:ByteArray) (w:World) (hs:s.size<=2147483647) (hl0:-9223372036854775808<=l0/\l0<=9223372036854775807) :
  Da 143 #[.agg #[.int .i64 a0,.int .i64 l0,.int .i64 c0],.string s] w fun e w'=>e=.returned (.agg #[.int .i64 (aAt a0 s),.int .i64 (ef l0 s),.int .i64 (iv c0 s)])/\Below w.heap.size w w':=
 zB a0 l0 c0 s w hs hl0
end Go.Proofs.YtpdlohfdjiaegaaGreatDoor.Lx
