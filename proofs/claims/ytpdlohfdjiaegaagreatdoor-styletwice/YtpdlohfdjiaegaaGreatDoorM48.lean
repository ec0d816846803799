import Derived.Test.YtpdlohfdjiaegaaGreatDoorM47
set_option linter.unusedVariables false
set_option linter.unusedSimpArgs false
set_option maxHeartbeats 4000000
set_option maxRecDepth 100000
namespace Go.Proofs.YtpdlohfdjiaegaaGreatDoor
open Go.RowKit
variable {t:Tv}
def ruF (t:Tv):Nat->List It->Int->List Ev->Option (Nat × Ro)
 |0,_,_,_=>none
 |f+1,[],n,E=>some (0,.no)
 |f+1,i :: K,n,E=>match It.step t i with
  |.ref=>some (0,.no)
  |.tk=>some (0,.yes K n E)
  |.go d o r=>match ruF t f (r++K) (n+d) (E++o) with
   |some (k,R)=>some (k+1,R)
   |none=>none
theorem uD :∀(f:Nat) (K:List It) (n:Int) (E:List Ev) (k:Nat) (R:Ro),ruF t f K n E=some (k,R)->Ru t k K n E R
 |0,_,_,_,_,_,h=>by cases h
 |f+1,[],n,E,k,R,h=>by cases h;exact .nil
 |f+1,i :: K,n,E,k,R,h=>by
  simp only [ruF] at h;cases hs:It.step t i with
  |ref=>rw [hs] at h;cases h;exact .ref hs
  |tk=>rw [hs] at h;cases h;exact .tk hs
  |go d o r=>
   rw [hs] at h;simp only at h;cases hr:ruF t f (r++K) (n+d) (E++o) with
   |none=>rw [hr] at h;cases h
   |some x=>
    obtain ⟨k',R'⟩:=x;rw [hr] at h;cases h;exact .go hs (uD f _ _ _ _ _ hr)
def ya (t:Tv):Pst->Option (List Ev × Int × Pst)
 |.live K n=>if (t.k == 7 || t.k == 8) then some (aT n++[⟨4,0,t⟩],0,.live (beg K n) (cu n)) else match ruF t 20 (beg K n) (cu n) (aT n) with
  |some (k,.yes L m E)=>if m<=1000 then some (E++[⟨2,0,t⟩],0,.live L m) else none
  |some (k,.no)=>some ([],120,.stuck 120 n)
  |none=>none
 |_=>none
theorem uC :∀(f:Nat) (K:List It) (n:Int) (E:List Ev) (k:Nat) (R:Ro),ruF t f K n E=some (k,R)->k+1<=f
 |0,_,_,_,_,_,h=>by cases h
 |f+1,[],n,E,k,R,h=>by cases h;omega
 |f+1,i :: K,n,E,k,R,h=>by
  simp only [ruF] at h;cases hs:It.step t i with
  |ref=>rw [hs] at h;cases h;omega
  |tk=>rw [hs] at h;cases h;omega
  |go d o r=>
   rw [hs] at h;simp only at h;cases hr:ruF t f (r++K) (n+d) (E++o) with
   |none=>rw [hr] at h;cases h
   |some x=>
    obtain ⟨k',R'⟩:=x;rw [hr] at h;cases h;have:=uC f _ _ _ _ _ hr;omega
theorem x8 {st:Pst}{x:List Ev × Int × Pst}(h:ya t st=some x):fB t st x.1 x.2.1 x.2.2:=by
 cases st with
 |live K n=>
  simp only [ya] at h
  split at h
  ·rename_i hc
   cases h;exact .note hc
  ·rename_i hc
   have hc':(t.k == 7 || t.k == 8)=false:=by simpa using hc
   cases hr:ruF t 20 (beg K n) (cu n) (aT n) with
   |none=>rw [hr] at h;cases h
   |some y=>
    obtain ⟨k,R⟩:=y;have h1:=uD _ _ _ _ _ _ hr;have h2:=uC _ _ _ _ _ _ hr;rw [hr] at h;cases R with
    |no=>cases h;exact .no hc' h1 (by omega)
    |yes L m E=>
     simp only at h
     split at h
     ·cases h;exact .yes hc' h1 (by omega) (by assumption)
     ·cases h
 |stuck e n=>cases h
 |shut=>cases h
def pW:List Tv->Pst->Option (List Ev × Int × Nat)
 |[],.live K n=>if K.length=1 then some ([⟨3,1,tv0⟩],0,0) else some ([],121,0)
 |[],_=>none
 |t :: l,st=>match ya t st with
  |some (ev,c,st')=>if c=0 then (match pW l st' with|some (E,c',k)=>some (ev++E,c',k+1)|none=>none) else some ([],c,0)
  |none=>none
theorem rB:∀(l:List Tv) (st:Pst) (E:List Ev) (c:Int) (k:Nat),pW l st=some (E,c,k)->Alr st l E c k
 |[],st,E,c,k,h=>by
  cases st with
  |live K n=>
   simp only [pW] at h
   split at h
   ·rename_i h1;cases h;exact .nil (.all h1)
   ·rename_i h1;cases h;exact .nil (.open h1)
  |stuck e n=>cases h
  |shut=>cases h
 |t :: l,st,E,c,k,h=>by
  simp only [pW] at h;cases hp:ya t st with
  |none=>rw [hp] at h;cases h
  |some x=>
   obtain ⟨ev,c1,st'⟩:=x;have h1:=x8 hp;rw [hp] at h;simp only at h h1
   split at h
   ·rename_i hc
    subst hc;cases hr:pW l st' with
    |none=>rw [hr] at h;cases h
    |some y=>
     obtain ⟨E2,c2,k2⟩:=y;rw [hr] at h;cases h;exact .on h1 (rB l st' _ _ _ hr)
   ·rename_i hc
    cases h;exact .err h1 hc
end Go.Proofs.YtpdlohfdjiaegaaGreatDoor
namespace Go.Proofs.YtpdlohfdjiaegaaGreatDoor
open Go.RowKit
open Lw (Dc bE rt frm dep rtT rtN dcs aD bk)
def xM (n:Int) (s o:ByteArray):Bool:=
 decide (s.size<=1000) && decide ((Lx.scn s).2.1=0) && decide ((stk s).length<=4194304) && match pW (stk s) (.live [] 0) with
 |some (E,c,_)=>decide (c=0) && decide (E.length<=8000000) && E.all (fun e=>decide (e.d.t.size<=1000)) && match bL sy0 E with
  |some L=>L.all (fun d=>decide (d.t.size<=1000)) && decide (Lw.uds L<=268435456) && decide ((Lw.fS n L).2=0) && decide ((Lw.fS n L).1.data.toList=o.data.toList)
  |none=>false
 |none=>false
abbrev BV:ByteArray:=⟨#[112,114,111,103,114,97,109,32,112,59,98,101,103,105,110,32,120,58,61,49,59,121,58,61,102,40,97,44,98,41,101,110,100,46]⟩
abbrev B9:ByteArray:=⟨#[112,114,111,103,114,97,109,32,112,59,10,98,101,103,105,110,10,32,32,120,32,58,61,32,49,59,10,32,32,121,32,58,61,32,102,40,97,44,32,98,41,10,101,110,100,46,10]⟩
abbrev BU:ByteArray:=⟨#[112,114,111,103,114,97,109,32,112,59,32,47,47,32,113,10,98,101,103,105,110,32,123,120,125,32,120,58,61,32,47,47,32,111,110,101,10,10,10,49,59,32,123,116,119,111,125,32,115,107,105,112,10,47,47,32,116,104,114,101,101,10,101,110,100,46]⟩
abbrev B8:ByteArray:=⟨#[112,114,111,103,114,97,109,32,112,59,32,47,47,32,113,10,98,101,103,105,110,32,123,120,125,10,32,32,120,32,58,61,32,47,47,32,111,110,101,10,32,32,32,32,49,59,32,123,116,119,111,125,10,32,32,115,107,105,112,10,32,32,47,47,32,116,104,114,101,101,10,101,110,100,46,10]⟩
theorem BZ:xM 20 BV B9=true:=by kernel_rfl
theorem BY:xM 20 BU B8=true:=by kernel_rfl
theorem my {a b:ByteArray}(h:a.data.toList=b.data.toList):a=b:=by
 obtain ⟨⟨x⟩⟩:=a;obtain ⟨⟨y⟩⟩:=b;exact congrArg (fun l=>(⟨⟨l⟩⟩:ByteArray)) h
theorem js {n:Int}{s o:ByteArray}(h:xM n s o=true) (W:World) (hT:Lx.Kab W) (hW:Lw.Tab W) :
  Da 17 #[.int .i64 n,.string s] W fun r w'=>∃p m c,r=.returned (.tuple #[.string o,.slice p m c,.bool true])/\Below W.heap.size W w':=by
 unfold xM at h;rw [Bool.and_eq_true,Bool.and_eq_true,Bool.and_eq_true] at h;obtain ⟨⟨⟨h1,h2⟩,h3⟩,h4⟩:=h;cases ha:pW (stk s) (.live [] 0) with
 |none=>rw [ha] at h4;cases h4
 |some x=>
  obtain ⟨E,c,k⟩:=x;rw [ha] at h4;simp only at h4;rw [Bool.and_eq_true,Bool.and_eq_true,Bool.and_eq_true] at h4;obtain ⟨⟨⟨h5,h6⟩,h7⟩,h8⟩:=h4;have hc:=of_decide_eq_true h5;subst hc;cases hL:bL sy0 E with
  |none=>rw [hL] at h8;cases h8
  |some L=>
   rw [hL] at h8;simp only at h8;rw [Bool.and_eq_true,Bool.and_eq_true,Bool.and_eq_true] at h8;obtain ⟨⟨⟨g1,g2⟩,g3⟩,g4⟩:=h8;have hsz:=of_decide_eq_true h1;refine (gz n s W hT hW (by omega) (of_decide_eq_true h2) (of_decide_eq_true h3) (rB _ _ _ _ _ ha) (of_decide_eq_true h6) (fun e he=>?_) hL (fun d hd=>?_) (of_decide_eq_true g2)).mono ?_
   ·have:=of_decide_eq_true (List.all_eq_true.1 h7 e he);omega
   ·have:=of_decide_eq_true (List.all_eq_true.1 g1 d hd);omega
   ·rintro r w' ⟨p,c,rfl,_,_,hb⟩;rw [my (of_decide_eq_true g4),decide_eq_true (of_decide_eq_true g3)];exact ⟨p,_,c,rfl,hb⟩
theorem kU (W:World) (hT:Lx.Kab W) (hW:Lw.Tab W):Da 9 #[] W fun r w'=>r=.returned (.bool true)/\Below W.heap.size W w':=by
 have H1:Hid (Da 17 #[.int .i64 20,.string BV] W fun r w'=>∃p m c,r=.returned (.tuple #[.string B9,.slice p m c,.bool true])/\Db W w'):=js BZ W hT hW;have H2:Hid (∀V,Db W V->Da 17 #[.int .i64 20,.string BU] V fun r w'=>∃p m c,r=.returned (.tuple #[.string B8,.slice p m c,.bool true])/\Db V w'):=fun V hb=>js BY V (hT.below hb) (hW.below hb)
 clear hT hW
 go_enter Tryz.func9,Tryz.ntmps9
 go_wp2_with fail
 refine H1.out.mono ?_;rintro r1 w1 ⟨p1,m1,c1,rfl,hb1⟩;have HB1:Hid (Db W w1):=hb1;clear hb1 H1
 go_wp2_with fail
 refine (H2.out _ HB1.out).mono ?_;rintro r2 w2 ⟨p2,m2,c2,rfl,hb2⟩;have HB2:Hid (Db W w2):=HB1.out.trans (hb2.mono HB1.out.size);clear hb2 H2
 go_wp2_with fail
 go_ret
 exact ⟨rfl,HB2.out⟩
theorem B3 {d:Dc}(h:rt d=true):d.t.size<=9223372036854775807:=by
 cases Lw.iA h with
 |text t hq=>have:=(Lw.iO hq).2;show t.size<=_;omega
 |_=>show (bE).size<=_;exact Nat.zero_le _
end Go.Proofs.YtpdlohfdjiaegaaGreatDoor
namespace Go.Proofs.YtpdlohfdjiaegaaGreatDoor
open Go.RowKit
open Lw (Dc bE rt frm dep rtT rtN)
theorem Ac:∀(l:List Tv) (K:List It) (n:Int) (E:List Ev) (a:Nat),Alr (.live K n) l E 0 a->eU (.live K n)->∀e∈E,e.d=tv0\/e.d∈l
 |[],K,n,E,a,hA,hg=>by
  obtain ⟨hc,_⟩:=hA.end;cases hc with
  |all hK=>intro e he;simp at he;subst he;exact .inl rfl
 |t :: l,K,n,E,a,hA,hg=>by
  rcases hA.inv with ⟨_,_,_,hc,_⟩|⟨ev,st',E2,k2,hp,hA2,rfl,rfl⟩
  ·exact absurd rfl hc
  ·obtain ⟨b1,b2,b3,b4,b5,hbot,hbn,hbe⟩:=cm hg;have hgk:=(dh hg hp).1
   have hB:∀e∈aT n,e.d=tv0:=by
    intro e he;unfold aT at he
    split at he
    ·simp at he;subst he;rfl
    ·simp at he
   have key:∀e∈ev,e.d=tv0\/e.d=t:=by
    cases hp with
    |note hc=>
     intro e he
     rcases List.mem_append.1 he with he|he
     ·exact .inl (hB e he)
     ·simp at he;subst he;exact .inr rfl
    |yes hc hR hkk hm=>
     obtain ⟨_,_,_,o,d4,_,d6,_⟩:=eI hR rfl b1 b2 b3;intro e he;rw [d4] at he
     rcases List.mem_append.1 he with he|he
     ·rcases List.mem_append.1 he with he|he
      ·exact .inl (hB e he)
      ·exact .inl (d6 e he).1
     ·simp at he;subst he;exact .inr rfl
   obtain ⟨K',n',rfl⟩:∃K' n',st'=.live K' n':=by
    cases hp with
    |note _=>exact ⟨_,_,rfl⟩
    |yes _ _ _ _=>exact ⟨_,_,rfl⟩
   intro e he
   rcases List.mem_append.1 he with he|he
   ·exact (key e he).imp id (fun h=>by rw [h];exact List.mem_cons_self ..)
   ·exact (Ac l K' n' E2 k2 hA2 hgk e he).imp id (List.mem_cons_of_mem _)
theorem Ar (s:ByteArray):∀t∈stk s,t.t.size<=s.size:=by
 intro t ht;obtain ⟨x,hx,rfl⟩:=List.mem_map.1 ht;obtain ⟨_,h1,h2⟩:=Lx.fx s _ 0 0 (Nat.le_refl _) x hx;show (s.extract x.a x.e).size<=_;rw [Lx.aj s x.a x.e h2];omega
theorem qg (s:ByteArray):(stk s).length<=s.size:=by
 have key:∀(d a f:Nat),s.size-a<=d->(Lx.fnd s a f).1.length<=s.size-a:=by
  intro d
  induction d with
  |zero=>intro a f h;rw [Lx.cL s a f (by omega)];exact Nat.zero_le _
  |succ d ih=>
   intro a f h
   by_cases ha:s.size<=a
   ·rw [Lx.cL s a f ha];exact Nat.zero_le _
   ·rw [Lx.bF s a f (by omega)]
    split
    ·have:=ih (a+1) (f+1) (by omega);omega
    ·split
     ·have:=ih (a+1) f (by omega);omega
     ·split
      ·exact Nat.zero_le _
      ·rename_i h3
       split
       ·exact Nat.zero_le _
       ·rename_i h4
        have he:Lx.ah s a (Lx.ag s a)=((Lx.ah s a (Lx.ag s a)).1,0):=Prod.ext rfl (by simpa using h4);obtain ⟨hap,hp⟩:=Lx.cG s a _ _ (by omega) rfl h3 he;have:=ih (Lx.ah s a (Lx.ag s a)).1 0 (by omega);simp only [List.length_cons];omega
 show ((Lx.scn s).1.map (Lx.tv s)).length<=_
 rw [List.length_map];exact key _ 0 0 (Nat.le_refl _)
end Go.Proofs.YtpdlohfdjiaegaaGreatDoor
namespace Go.Proofs.YtpdlohfdjiaegaaGreatDoor
open Go.RowKit
open Lw (Dc bE rt frm dep rtT rtN lsb ud uds)
variable {s:ByteArray}{b:Bool}{l l':List Tv}
def cmt (t:Tv):Bool:=decide (t.k=7) || decide (t.k=8)
theorem oj (t:Tv) (W:World):Da 19 #[.agg #[.int .u8 t.k,.string t.t,.int .i64 t.a,.int .i64 t.l,.int .i64 t.c,.int .i64 t.f]] W fun r w'=>r=.returned (.bool (cmt t))/\Below W.heap.size W w':=by
 have HB:Hid (Db W (W.alloc (.cells #[.int .u8 t.k,.string t.t,.int .i64 t.a,.int .i64 t.l,.int .i64 t.c,.int .i64 t.f] 37))):=(Below.refl _ _).alloc (Nat.le_refl _) _;obtain ⟨k,x,a,l,c,f⟩:=t;have HC:Hid (cmt ⟨k,x,a,l,c,f⟩=(decide (k=7) || decide (k=8))):=rfl;rw [HC.out]
 by_cases h7:k=7
 ·subst h7
  go_enter Tryz.func19,Tryz.ntmps19
  go_wp2_with fail
  go_ret
  exact ⟨rfl,HB.out⟩
 ·by_cases h8:k=8
  ·subst h8
   go_enter Tryz.func19,Tryz.ntmps19
   go_wp2_with fail
   go_ret
   exact ⟨rfl,HB.out⟩
  ·rw [decide_eq_false h7,decide_eq_false h8]
   go_enter Tryz.func19,Tryz.ntmps19
   go_wp2_with fail
   go_ret
   exact ⟨by simp [h7,h8],HB.out⟩
theorem qY {W:World}(hT:Lx.Kab W) (hs:s.size<=1000000000) (h0:(Lx.scn s).2.1=0) {E:List Ev}{a:Nat}(hl:(stk s).length<=4194304) (hA:Alr (.live [] 0) (stk s) E 0 a) :
  Da 16 #[.string s] W fun r w'=>∃p n c p2 c2,r=.returned (.tuple #[.slice p n c,.slice p2 (stk s).length c2,.bool true])/\Below W.heap.size W w'/\Lt w' p2 (stk s):=by
 refine (fA s W hT hs h0 hl hA).mono ?_;rintro r w' ⟨p,m,c,p2,n2,c2,rfl,hb,hx⟩;obtain ⟨x1,x2,x3⟩:=hx rfl;obtain ⟨p',c',e,h1,_⟩:=Lt.row x3;cases e;exact ⟨p,m,c,p2,c2,rfl,hb,h1⟩
def tM (j:Nat) (t:Tv):Bool:=decide (0<j) && decide (t.f=0)
theorem eQ (l:List Tv) (ao:Option Addr) (cap j:Nat) (t:Tv) (W:World) (hL:Lt W ao l) (hj:l[j]?=some t) (hl:l.length<=1000000000) :
  Da 20 #[.slice ao l.length cap,.int .i64 j] W fun r w'=>r=.returned (.bool (tM j t))/\w'=W:=by
 have hlt:=(List.getElem?_eq_some_iff.1 hj).1;obtain ⟨b,off,rfl,c0,c1,c2,c3,c4,c5⟩:=hL j t hj;have q1:(j:Int)<l.length:=by omega
 have q0:(0:Int)<=j:=by omega
 clear hL hj
 by_cases h0:0<j
 ·have r0:(0:Int)<j:=by omega
  have HB:Hid (tM j t=decide (t.f=0)):=by show (decide (0<j) && decide (t.f=0))=_;rw [decide_eq_true h0,Bool.true_and]
  rw [HB.out]
  by_cases hf:t.f=0
  ·rw [hf] at c5;rw [decide_eq_true hf];clear hf
   go_enter Tryz.func20,Tryz.ntmps20
   go_wp2_with fail
   go_ret
   exact ⟨rfl,rfl⟩
  ·rw [decide_eq_false hf]
   go_enter Tryz.func20,Tryz.ntmps20
   go_wp2_with fail
   go_ret
   exact ⟨by simp [hf],rfl⟩
 ·have r0:¬(0:Int)<j:=by omega
  have HB:Hid (tM j t=false):=by show (decide (0<j) && decide (t.f=0))=_;rw [decide_eq_false h0,Bool.false_and]
  rw [HB.out];obtain rfl:j=0:=by omega
  go_enter Tryz.func20,Tryz.ntmps20
  go_wp2_with fail
  go_ret
  exact ⟨rfl,rfl⟩
theorem qy {n:Int}(h1:1<=n) (h2:n<=4096) {x:ByteArray}{V:World}(hT:Lx.Kab V) (hW:Lw.Tab V) (hx:x.size<=1000000000) (h0:(Lx.scn x).2.1=0) {E:List Ev}{a:Nat}(hl:(stk x).length<=20000) (hA:Alr (.live [] 0) (stk x) E 0 a) {L:List Dc}(hL:bL sy0 E=some L) (hf:frm 0 0 L=none) (hU:uds L<=268435456) :
  Da 17 #[.int .i64 n,.string x] V fun r w'=>∃p c,r=.returned (.tuple #[.string ⟨(Lw.eV n.toNat L).toArray⟩,.slice p L.length c,.bool true])/\Below V.heap.size V w'/\Lw.Lay w' p L:=by
 have hcn:=mG (stk x) [] 0 E a hA dm;have hcn':E.length<=0+23*(stk x).length+1:=hcn;have hd:∀d∈L,d.t.size<=9223372036854775807:=fun d hd=>B3 (Lw.jR L 0 0 hf d hd)
 have hw:Lw.fS n L=(⟨(Lw.eV n.toNat L).toArray⟩,0):=by
  unfold Lw.fS;rw [if_neg (by omega),if_neg (by rw [hf];simp)]
 refine (gz n x V hT hW hx h0 (by omega) hA (by omega) (fun e he=>?_) hL hd hU).mono ?_
 ·rcases Ac (stk x) [] 0 E a hA dm e he with h|h
  ·rw [h];exact Nat.zero_le _
  ·have:=Ar x _ h;omega
 ·rintro r w' ⟨p,c,rfl,hr,_,hb⟩;obtain ⟨a1,b1,e1,_,l1,_⟩:=Lw.Lay.row hr hd;injection e1 with e11
  subst e11;exact ⟨p,c,by rw [hw];rfl,hb,l1⟩
theorem tV (n:Nat) {L:List Dc}(hr:∀d∈L,rt d=true):(⟨(Lw.eV n L).toArray⟩:ByteArray).size<=uds L:=by
 have h:=Lw.lC (n:=n) L (Lw.nds L).1 Lw.pr0 0 hr Lw.bp0;have h1:=h.out;show (Lw.eV n L).toArray.size<=_;rw [List.size_toArray];show (Lw.puts n L (Lw.nds L).1 Lw.pr0).sk.out.length<=_;omega
theorem AH (h:Rl b l l'):l'.length=l.length:=by
 induction h with
 |nil=>rfl
 |cons _ _ _ _ ih=>simp [ih]
theorem B4 (h:Rl b l l'):∀{j:Nat}{t t':Tv},l[j]?=some t->l'[j]?=some t'->t'.k=t.k/\t'.t=t.t/\(b=true\/0<j->dN t->(t.f=0↔t'.f=0)):=by
 induction h with
 |nil=>intro j t t' h;simp at h
 |cons e1 e2 e3 _ ih=>
  intro j t t' h1 h2;cases j with
  |zero=>
   simp at h1 h2;subst h1 h2;exact ⟨e1,e2,fun hb hn=>e3 (hb.resolve_right (by omega)) hn⟩
  |succ j=>
   obtain ⟨a1,a2,a3⟩:=ih (j:=j) (by simpa using h1) (by simpa using h2);exact ⟨a1,a2,fun _ hn=>a3 (.inl rfl) hn⟩
structure TwF (s T:ByteArray) (L:List Dc):Prop where
 len:(stk T).length=(stk s).length
 at_:∀(j:Nat) t t',(stk s)[j]?=some t->(stk T)[j]?=some t'->t'.k=t.k/\t'.t=t.t/\(0<j->dN t->(t.f=0↔t'.f=0))
theorem Am (hs:s.size<=20000) (h0:(Lx.scn s).2.1=0) {E:List Ev}{a:Nat}(hA:Alr (.live [] 0) (stk s) E 0 a) {n:Int}(h1:1<=n) (h2:n<=4096) :
  ∃T L,TwF s T L/\(∀V,Lx.Kab V->Lw.Tab V->Da 17 #[.int .i64 n,.string s] V fun r w'=>∃p c,r=.returned (.tuple #[.string T,.slice p L.length c,.bool true])/\Below V.heap.size V w'/\Lw.Lay w' p L) /\
   (∀V,Lx.Kab V->Lw.Tab V->Da 17 #[.int .i64 n,.string T] V fun r w'=>∃p c,r=.returned (.tuple #[.string T,.slice p L.length c,.bool true])/\Below V.heap.size V w'/\Lw.Lay w' p L) /\
   (∀V,Lx.Kab V->Da 16 #[.string s] V fun r w'=>∃p n c p2 c2,r=.returned (.tuple #[.slice p n c,.slice p2 (stk s).length c2,.bool true])/\Below V.heap.size V w'/\Lt w' p2 (stk s)) /\
   (∀V,Lx.Kab V->Da 16 #[.string T] V fun r w'=>∃p n c p2 c2,r=.returned (.tuple #[.slice p n c,.slice p2 (stk T).length c2,.bool true])/\Below V.heap.size V w'/\Lt w' p2 (stk T))/\L.length<=6000000/\(stk s).length<=20000:=by
 obtain ⟨L,hL,hf,hall⟩:=oH s h0 hA;have hls:=qg s;obtain ⟨hU,hr⟩:=tZ hA hL hs hls;obtain ⟨c1,⟨E',hA',hL'⟩,hR⟩:=hall n.toNat;have hz:=tV n.toNat hr;obtain ⟨T,hT⟩:∃T,(⟨(Lw.eV n.toNat L).toArray⟩:ByteArray)=T:=⟨_,rfl⟩;rw [hT] at c1 hA' hR hz;have hlen:=AH hR;refine ⟨T,L,⟨hlen,fun j t t' x1 x2=>?_⟩,?_,?_,?_,?_,?_,by omega⟩
 ·obtain ⟨a1,a2,a3⟩:=B4 hR x1 x2;exact ⟨a1,a2,fun hj hn=>a3 (.inr hj) hn⟩
 ·intro V k1 k2;have:=qy h1 h2 k1 k2 (x:=s) (by omega) h0 (by omega) hA hL hf hU;rw [hT] at this;exact this
 ·intro V k1 k2;have:=qy h1 h2 k1 k2 (x:=T) (by omega) c1 (by omega) hA' hL' hf hU;rw [hT] at this;exact this
 ·intro V k1;exact qY k1 (by omega) h0 (by omega) hA
 ·intro V k1;exact qY k1 (by omega) c1 (by omega) hA'
 ·have hx:=mG (stk s) [] 0 E a hA dm;have hx':E.length<=0+23*(stk s).length+1:=hx
  have key:∀(E:List Ev) {s:Sy} {L:List Dc},bL s E=some L->L.length<=phi s+12*E.length+1:=by
   intro E
   induction E with
   |nil=>
    intro s L h;have h':eh s=some L:=h;unfold eh at h'
    split at h'
    ·cases h';unfold Sy.endl phi
     split
     ·show (dH :: s.ws).length<=_;simp only [List.length_cons];omega
     ·omega
    ·cases h'
   |cons e E ih=>
    intro s L h;rw [dK] at h;cases hp:cd s e with
    |none=>rw [hp] at h;cases h
    |some y=>
     obtain ⟨s1,l⟩:=y;rw [hp] at h;simp only at h;obtain ⟨L1,g1,g2⟩:=Option.map_eq_some_iff.1 h;have b1:=ih g1;have b2:=(qG hp).1;rw [<-g2,List.length_append,List.length_cons];omega
  have:=key E hL;have h9:phi sy0=0:=rfl;omega
theorem rP (w:Int) (h1:-9223372036854775808<=w) (h2:w<=9223372036854775807) (s:ByteArray) (W:World) (hT:Lx.Kab W) (hW:Lw.Tab W) (hs:s.size<=20000) (h0:(Lx.scn s).2.1=0) {E:List Ev}{a:Nat}(hA:Alr (.live [] 0) (stk s) E 0 a) :
  Da 6 #[.int .i64 w,.string s] W fun r w'=>r=.returned (.bool true)/\Below W.heap.size W w':=by
 have HTw:Hid (∀n:Int,1<=n->n<=4096->∃T L,TwF s T L/\(∀V,Below W.heap.size W V->Da 17 #[.int .i64 n,.string s] V fun r w'=>∃p c,r=.returned (.tuple #[.string T,.slice p L.length c,.bool true])/\Below V.heap.size V w'/\Lw.Lay w' p L) /\
   (∀V,Below W.heap.size W V->Da 17 #[.int .i64 n,.string T] V fun r w'=>∃p c,r=.returned (.tuple #[.string T,.slice p L.length c,.bool true])/\Below V.heap.size V w'/\Lw.Lay w' p L) /\
   (∀V,Below W.heap.size W V->Da 16 #[.string s] V fun r w'=>∃p n c p2 c2,r=.returned (.tuple #[.slice p n c,.slice p2 (stk s).length c2,.bool true])/\Below V.heap.size V w'/\Lt w' p2 (stk s)) /\
   (∀V,Below W.heap.size W V->Da 16 #[.string T] V fun r w'=>∃p n c p2 c2,r=.returned (.tuple #[.slice p n c,.slice p2 (stk T).length c2,.bool true])/\Below V.heap.size V w'/\Lt w' p2 (stk T))/\L.length<=6000000/\(stk s).length<=20000):=by
  intro n n1 n2;obtain ⟨T,L,a1,a2,a3,a4,a5,a6,a7⟩:=Am hs h0 hA n1 n2;exact ⟨T,L,a1,fun V hb=>a2 V (hT.below hb) (hW.below hb),fun V hb=>a3 V (hT.below hb) (hW.below hb),fun V hb=>a4 V (hT.below hb),fun V hb=>a5 V (hT.below hb),a6,a7⟩
 have HAw:Hid (∀V,Db W V->Da 9 #[] V fun r w'=>r=.returned (.bool true)/\Db V w'):=fun V hb=>kU V (hT.below hb) (hW.below hb)
 have q20:¬((20000:Int)<(s.size:Int)):=by omega
 clear hT hW hs h0 hA
 go_enter Tryz.func6,Tryz.ntmps6
 by_cases hc:w<0
 case' pos=>
  go_upto_region 4 with fail
  obtain ⟨n,hn,n1,n2⟩:∃n:Int,wrap64 (1+-((w+1).tmod 4096))=n/\1<=n/\n<=4096:=by
   have e:(w+1).tmod 4096=-((-(w+1)).tmod 4096):=by rw [Int.neg_tmod];omega
   have b1:=Int.tmod_nonneg (4096:Int) (show 0<=-(w+1) by omega);have b2:=Int.tmod_lt_of_pos (-(w+1)) (show (0:Int)<4096 by decide);refine ⟨_,rfl,?_,?_⟩ <;> (unfold wrap64;omega)
  rw [hn]
 case' neg=>
  go_upto_region 4 with fail
  obtain ⟨n,hn,n1,n2⟩:∃n:Int,1+w % 4096=n/\1<=n/\n<=4096:=⟨_,rfl,by omega,by omega⟩;rw [hn]
 all_goals (
  obtain ⟨T,L,hF,hP1,hP2,hE1,hE2,hLl,hsl⟩:=HTw.out n n1 n2;have HF:Hid (TwF s T L):=hF;have HP1:Hid (∀V,Db W V->Da 17 #[.int .i64 n,.string s] V fun r w'=>∃p c,r=.returned (.tuple #[.string T,.slice p L.length c,.bool true])/\Db V w'/\Lw.Lay w' p L):=hP1;have HP2:Hid (∀V,Db W V->Da 17 #[.int .i64 n,.string T] V fun r w'=>∃p c,r=.returned (.tuple #[.string T,.slice p L.length c,.bool true])/\Db V w'/\Lw.Lay w' p L):=hP2;have HE1:Hid (∀V,Db W V->Da 16 #[.string s] V fun r w'=>∃p n c p2 c2,r=.returned (.tuple #[.slice p n c,.slice p2 (stk s).length c2,.bool true])/\Db V w'/\Lt w' p2 (stk s)):=hE1;have HE2:Hid (∀V,Db W V->Da 16 #[.string T] V fun r w'=>∃p n c p2 c2,r=.returned (.tuple #[.slice p n c,.slice p2 (stk T).length c2,.bool true])/\Db V w'/\Lt w' p2 (stk T)):=hE2;clear hF hP1 hP2 hE1 hE2 hn hc h1 h2 HTw;obtain ⟨l,hl⟩:∃l,stk s=l:=⟨_,rfl⟩;obtain ⟨l',hl'⟩:∃l',stk T=l':=⟨_,rfl⟩;have hlen:l'.length=l.length:=by rw [<-hl,<-hl'];exact HF.out.len
  have HAt:Hid (∀(j:Nat) t t',l[j]?=some t->l'[j]?=some t'->t'.k=t.k/\t'.t=t.t/\(0<j->dN t->(t.f=0↔t'.f=0))):=by rw [<-hl,<-hl'];exact HF.out.at_
  rw [hl] at HE1 hsl;rw [hl',hlen] at HE2;have HLn:Hid (l'.length=l.length):=hlen;clear hl hl' HF hlen
  go_wp2_with fail
  refine (HE1.out _ (Below.refl _ _)).mono ?_;rintro r w1 ⟨p1,m1,c1,p2,c2,rfl,hb1,hL1⟩;have H1:Hid (Db W w1/\Lt w1 p2 l):=⟨hb1,hL1⟩;clear hb1 hL1 HE1
  go_wp2_with fail
  refine (HP1.out _ H1.out.1).mono ?_;rintro r w2 ⟨p3,c3,rfl,hb2,hL2⟩;have H2:Hid (Db W w2/\Lt w2 p2 l/\Lw.Lay w2 p3 L):=⟨H1.out.1.trans (hb2.mono H1.out.1.size),H1.out.2.below hb2,hL2⟩;clear hb2 hL2 HP1 H1
  go_wp2_with fail
  refine (HP2.out _ H2.out.1).mono ?_;rintro r w3 ⟨p4,c4,rfl,hb3,hL3⟩;have H3:Hid (Db W w3/\Lt w3 p2 l/\Lw.Lay w3 p3 L/\Lw.Lay w3 p4 L):=⟨H2.out.1.trans (hb3.mono H2.out.1.size),H2.out.2.1.below hb3,H2.out.2.2.below hb3,hL3⟩;clear hb3 hL3 HP2 H2
  go_wp2_with fail
  refine (HE2.out _ H3.out.1).mono ?_;rintro r w4 ⟨p5,m5,c5,p6,c6,rfl,hb4,hL4⟩;have H4:Hid (Db W w4/\Lt w4 p2 l/\Lw.Lay w4 p3 L/\Lw.Lay w4 p4 L/\Lt w4 p6 l'):=⟨H3.out.1.trans (hb4.mono H3.out.1.size),H3.out.2.1.below hb4,H3.out.2.2.1.below hb4,H3.out.2.2.2.below hb4,hL4⟩;clear hb4 hL4 HE2 H3;have HSm:Hid (Da 18 #[.slice p3 L.length c3,.slice p4 L.length c4] w4 fun r w'=>r=.returned (.bool true)/\Db w4 w'):=(Lw.uz p3 p4 L L c3 c4 w4 H4.out.2.2.1 H4.out.2.2.2.1 (by omega) (by omega)).mono (fun r w' ⟨e1,e2⟩=>⟨by rw [e1];simp,e2⟩)
  go_wp2_with (go_at_call 18;refine HSm.out.mono ?_;rintro r w5 ⟨rfl,hb5⟩;have H5:Hid (Db W w5/\Lt w5 p2 l/\Lt w5 p6 l'):=⟨H4.out.1.trans (hb5.mono H4.out.1.size),H4.out.2.1.below hb5,H4.out.2.2.2.2.below hb5⟩;clear hb5)
  clear H4 HSm
  go_loopw [17] (fun i wr=>∃j:Nat,j<=l.length/\i=.int .i64 j/\Hid (Below W.heap.size W wr/\Lt wr p2 l/\Lt wr p6 l')) (fun i _=>l.length-(intOf i).toNat)
  case atStart=>exact ⟨0,Nat.zero_le _,rfl,H5.out⟩
  case round=>
   obtain ⟨j,hj,rfl,HJ⟩:=hrel;clear H5
   by_cases hlt:j<l.length
   ·have q1:(j:Int)<l.length:=by omega
    have q0:(0:Int)<=j:=by omega
    obtain ⟨t,ht⟩:∃t,l[j]?=some t:=⟨_,List.getElem?_eq_getElem hlt⟩;obtain ⟨t',ht'⟩:∃t',l'[j]?=some t':=⟨_,List.getElem?_eq_getElem (by rw [HLn.out];exact hlt)⟩;obtain ⟨e1,e2,e3⟩:=HAt.out j t t' ht ht';obtain ⟨b,off,rfl,x0,x1,x2,x3,x4,x5⟩:=HJ.out.2.1 j t ht;obtain ⟨b',off',rfl,y0,y1,y2,y3,y4,y5⟩:=HJ.out.2.2 j t' ht';rw [e1] at y0;rw [e2] at y1;have u0:∀x:HW (SG wr),x.W.cell? ⟨b,off+j*6,none⟩=some (.int .u8 t.k):=fun x=>aY x0 x.h
    have u1:∀x:HW (SG wr),x.W.cell? ⟨b,off+j*6+1,none⟩=some (.string t.t):=fun x=>aY x1 x.h
    have u2:∀x:HW (SG wr),x.W.cell? ⟨b,off+j*6+2,none⟩=some (.int .i64 t.a):=fun x=>aY x2 x.h
    have u3:∀x:HW (SG wr),x.W.cell? ⟨b,off+j*6+3,none⟩=some (.int .i64 t.l):=fun x=>aY x3 x.h
    have u4:∀x:HW (SG wr),x.W.cell? ⟨b,off+j*6+4,none⟩=some (.int .i64 t.c):=fun x=>aY x4 x.h
    have u5:∀x:HW (SG wr),x.W.cell? ⟨b,off+j*6+5,none⟩=some (.int .i64 t.f):=fun x=>aY x5 x.h
    have v0:∀x:HW (SG wr),x.W.cell? ⟨b',off'+j*6,none⟩=some (.int .u8 t.k):=fun x=>aY y0 x.h
    have v1:∀x:HW (SG wr),x.W.cell? ⟨b',off'+j*6+1,none⟩=some (.string t.t):=fun x=>aY y1 x.h
    have KC:Hid (∀x:HW (SG wr),Da 19 #[.agg #[.int .u8 t.k,.string t.t,.int .i64 t.a,.int .i64 t.l,.int .i64 t.c,.int .i64 t.f]] x.W fun r w'=>r=.returned (.bool (cmt t))/\Below x.W.heap.size x.W w'):=fun x=>oj t x.W
    obtain ⟨bb,hbb⟩:∃bb,tM j t=bb:=⟨_,rfl⟩;have KB1:Hid (∀x:HW (SG wr),Da 20 #[.slice (some ⟨b,off,none⟩) l.length c2,.int .i64 j] x.W fun r w'=>r=.returned (.bool bb)/\Below x.W.heap.size x.W w'):=fun x=>(eQ l _ c2 j t x.W (HJ.out.2.1.below x.h) ht (by omega)).mono (fun r w' ⟨z1,z2⟩=>⟨by rw [z1,hbb],by rw [z2];exact Below.refl _ _⟩)
    have hnt:cmt t=true->tM j t'=bb:=by
     intro hc;have hc':dN t:=by simpa [cmt,dN] using hc
     rw [<-hbb];unfold tM
     by_cases hj0:0<j
     ·rw [decide_eq_true hj0,Bool.true_and,Bool.true_and];exact decide_eq_decide.2 (e3 hj0 hc').symm
     ·rw [decide_eq_false hj0,Bool.false_and,Bool.false_and]
    have HX:Hid (∀V,Db wr V->Db W V/\Lt V (some ⟨b,off,none⟩) l/\Lt V (some ⟨b',off',none⟩) l'):=fun V hb=>⟨HJ.out.1.trans (hb.mono HJ.out.1.size),HJ.out.2.1.below hb,HJ.out.2.2.below hb⟩
    have hne:Nonempty (HW (SG wr)):=⟨⟨wr.drew,(Below.refl _ _).drew⟩⟩;have hex:∀x:HW (SG wr),∃y:HW (SG wr),x.W=y.W:=fun x=>⟨x,rfl⟩
    cases hcm:cmt t with
    |true=>
     have KB2:Hid (∀x:HW (SG wr),Da 20 #[.slice (some ⟨b',off',none⟩) l.length c6,.int .i64 j] x.W fun r w'=>r=.returned (.bool bb)/\Below x.W.heap.size x.W w'):=fun x=>by
      have:=eQ l' (some ⟨b',off',none⟩) c6 j t' x.W (HJ.out.2.2.below x.h) ht' (by rw [HLn.out];omega);rw [HLn.out,hnt hcm] at this;exact this.mono (fun r w' ⟨z1,z2⟩=>⟨z1,by rw [z2];exact Below.refl _ _⟩)
     rw [hcm] at KC;clear hnt hcm hbb e1 e2 e3 ht ht' x0 x1 x2 x3 x4 x5 y0 y1 y2 y3 y4 y5 HJ
     go_wp2_with fail
     refine bC (S:=SG wr) (by kernel_rfl) (by kernel_rfl) (Below.refl _ _).drew ?_
     iterate 29 (go_big_quiet_step (fail))
     go_big_quiet_step ((go_at_call 19;exact Calls.quiet_in _ (KC.out _) (fun _ _=>SG.keep)))
     iterate 3 (go_big_quiet_step (fail))
     go_big_quiet_step ((go_at_call 20;exact Calls.quiet_in _ (KB1.out _) (fun _ _=>SG.keep)))
     iterate 2 (go_big_quiet_step (fail))
     go_big_quiet_step ((go_at_call 20;exact Calls.quiet_in _ (KB2.out _) (fun _ _=>SG.keep)))
     iterate 3 (go_big_quiet_step (fail))
     refine wpQuiet_nil ?_;rintro w9 ⟨⟨W9,hS9⟩,rfl⟩;have H9:Hid (Db wr w9):=hS9;clear hS9 hne hex u0 u1 u2 u3 u4 u5 v0 v1
     go_wp2_with fail
     exact ⟨⟨j+1,hlt,by go_num,HX.out _ H9.out⟩,by simp [intOf];omega⟩
    |false=>
     have KB2:Hid True:=trivial;rw [hcm] at KC;clear hnt hcm hbb e1 e2 e3 ht ht' x0 x1 x2 x3 x4 x5 y0 y1 y2 y3 y4 y5 HJ
     go_wp2_with fail
     refine bC (S:=SG wr) (by kernel_rfl) (by kernel_rfl) (Below.refl _ _).drew ?_
     iterate 29 (go_big_quiet_step (fail))
     go_big_quiet_step ((go_at_call 19;exact Calls.quiet_in _ (KC.out _) (fun _ _=>SG.keep)))
     iterate 10 (go_big_quiet_step (fail))
     refine wpQuiet_nil ?_;rintro w9 ⟨⟨W9,hS9⟩,rfl⟩;have H9:Hid (Db wr w9):=hS9;clear hS9 hne hex u0 u1 u2 u3 u4 u5 v0 v1
     go_wp2_with fail
     exact ⟨⟨j+1,hlt,by go_num,HX.out _ H9.out⟩,by simp [intOf];omega⟩
   ·obtain rfl:j=l.length:=by omega
    have q1:¬((l.length:Int)<l.length):=by omega
    have HB:Hid (Db W wr):=HJ.out.1;clear HJ
    go_wp2_with fail
    refine (HAw.out _ HB.out).mono ?_;rintro r w9 ⟨rfl,hb9⟩;have H9:Hid (Db W w9):=HB.out.trans (hb9.mono HB.out.size);clear hb9
    go_wp2_with fail
    go_ret
    exact ⟨rfl,H9.out⟩)
end Go.Proofs.YtpdlohfdjiaegaaGreatDoor
namespace Go.Proofs.YtpdlohfdjiaegaaGreatDoor
open Go.RowKit
open Lw (Dc bE rt frm dep rtT rtN)
theorem oL (w:Int) (h1:-9223372036854775808<=w) (h2:w<=9223372036854775807) (s:ByteArray) (W:World) (hT:Lx.Kab W) (hW:Lw.Tab W) (hs:s.size<=maxLen) :
  Da 6 #[.int .i64 w,.string s] W fun r w'=>r=.returned (.bool true)/\Below W.heap.size W w':=by
 by_cases hb:20000<s.size
 ·have q:(20000:Int)<(s.size:Int):=by omega
  unfold maxLen at hs;clear hT hW
  go_enter Tryz.func6,Tryz.ntmps6
  by_cases hc:w<0
  all_goals (
   go_wp2_with fail
   go_ret
   exact ⟨rfl,Below.refl _ _⟩)
 ·have hA:∀V,Below W.heap.size W V->Da 9 #[] V fun r w'=>r=.returned (.bool true)/\Below V.heap.size V w':=fun V hb=>kU V (hT.below hb) (hW.below hb)
  have no:(Da 16 #[.string s] W fun r w'=>∃p n c p2 n2 c2,r=.returned (.tuple #[.slice p n c,.slice p2 n2 c2,.bool false])/\Below W.heap.size W w')->Da 6 #[.int .i64 w,.string s] W fun r w'=>r=.returned (.bool true)/\Below W.heap.size W w':=by
   intro hEv;have q:¬((20000:Int)<(s.size:Int)):=by omega
   have HEv:Hid (Da 16 #[.string s] W fun r w'=>∃p n c p2 n2 c2,r=.returned (.tuple #[.slice p n c,.slice p2 n2 c2,.bool false])/\Db W w'):=hEv;have HAw:Hid (∀V,Db W V->Da 9 #[] V fun r w'=>r=.returned (.bool true)/\Db V w'):=hA;clear hEv hA hT hW
   go_enter Tryz.func6,Tryz.ntmps6
   by_cases hc:w<0
   all_goals (
    go_wp2_with fail
    refine HEv.out.mono ?_;rintro r w1 ⟨p,n,c,p2,n2,c2,rfl,hb1⟩;have H1:Hid (Db W w1):=hb1;clear hb1 HEv
    go_wp2_with fail
    refine (HAw.out _ H1.out).mono ?_;rintro r w2 ⟨rfl,hb2⟩;have H2:Hid (Db W w2):=H1.out.trans (hb2.mono H1.out.size);clear hb2
    go_wp2_with fail
    go_ret
    exact ⟨rfl,H2.out⟩)
  by_cases h0:(Lx.scn s).2.1=0
  ·have hl:=qg s;obtain ⟨E,code,a,hAl⟩:=xb (stk s) (.live [] 0) dm
   by_cases hc:code=0
   ·subst hc;exact rP w h1 h2 s W hT hW (by omega) h0 hAl
   ·refine no ((fA s W hT (by omega) h0 (by omega) hAl).mono ?_);rintro r w' ⟨p,m,c,p2,n2,c2,rfl,hb,hx⟩;exact ⟨p,m,c,p2,n2,c2,by rw [decide_eq_false hc],hb⟩
  ·refine no ((pF s W hT (by omega) h0).mono ?_);rintro r w' ⟨rfl,hb⟩;exact ⟨none,0,0,none,0,0,rfl,hb⟩
end Go.Proofs.YtpdlohfdjiaegaaGreatDoor
